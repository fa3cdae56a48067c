import PyProof.Rows.All
import Wide.All
import OpenK.AllK
import Wide.FinOn
import PyProof.EqAt
import PyProof.EqKinds
import PyProof.TupleCall
import HandS.ForMost
import HandS.ForExc
import HandS.ExcInit
import HandS.TryMany
import HandS.Flow
import HandS.Lambda
import HandS.TupSets
import HandS.Star
import HandS.Conv
import HandS.IsInst
import HandS.ExcField
import HandS.ExcIs
import KE.KExcIs
import KE.KTryMore
import KE.GoesEnum
import KE.GoesMore
import HandS.Iter
import HandS.Text
import HandS.Style
import HandS.Deep
import KE.SortData
import KE.DataCmp
import PyProof.ReprRoads
import PyProof.ReprLen
import PyProof.StrBlock2
import PyProof.Rows.StrMul
import KE.GoesEnumKw
import PyProof.Rows.CallKw2
import KE.DatumOrd
import HandS.SortKw
import KE.SortKeyHeap
import HandS.EndTab
import HandS.SuiteRaise
import HandS.ExcInitHot
import PyProof.SetRoads
import HandS.CallSlots
import HandS.Defaults
import HandS.ForDict
import PyProof.AssignAttr
import HandS.SetFor
import HandS.Strs
import KE.KDictZip
import HandS.WideBits
import PySem.Challenge.RW_spoolbox_k44_what_stands_in_a_row
set_option Elab.async false
set_option linter.all false
set_option maxRecDepth 100000
set_option maxHeartbeats 4000000
namespace DL
open PySem PySem.Spec PyProof.Rows L2
abbrev D := PyData
abbrev St := L2.St
@[simp] def ntb : HO → Bool
  | .tbl _ => false
  | _ => true
def zd (H H' : Hp) : Prop := ∀ b o, H b = some o → ntb o = true → H' b = some o
def LQ : List (Nat × Str) := [(1000, "in_order" ++ ".<locals>." ++ "<lambda>"), (1001, "witness" ++ ".<locals>." ++ "<lambda>"), (1002, "file_of" ++ ".<locals>." ++ "<lambda>"), (1003, "rebuilt" ++ ".<locals>." ++ "<lambda>")]
def TBl (Cl : Nat → Addr) (H : Hp) : Prop := ∀ p ∈ LQ, Cl p.1 ≠ 0 → LamX.TabS H (Cl p.1) p.2
def NoT (Cl : Nat → Addr) : Prop := Cl 1000 = 0 ∧ Cl 1001 = 0 ∧ Cl 1002 = 0 ∧ Cl 1003 = 0
theorem TBl.none {Cl : Nat → Addr} (h : NoT Cl) (H : Hp) : TBl Cl H := fun p hp n => by
  obtain ⟨h0, h1, h2, h3⟩ := h
  simp only [LQ, List.mem_cons, List.not_mem_nil, or_false] at hp
  rcases hp with rfl | rfl | rfl | rfl
  · exact absurd h0 n
  · exact absurd h1 n
  · exact absurd h2 n
  · exact absurd h3 n
structure Same (Cl : Nat → Addr) (H H' : Hp) : Prop where
  d : zd H H'
  tb : TBl Cl H → TBl Cl H'
  live : ∀ b, H b ≠ none → H' b ≠ none
  nf : ∀ b o xs, H' b = some (.frz o (.lst xs)) → H b = some (.frz o (.lst xs))
section
variable {Cl : Nat → Addr}
theorem zd.refl (H : Hp) : zd H H := fun _ _ h _ => h
theorem zd.trans {H H1 H2 : Hp} (a : zd H H1) (b : zd H1 H2) : zd H H2 := fun c o h n => b c o (a c o h n) n
theorem Same.refl (H : Hp) : Same Cl H H := ⟨.refl H, fun h => h, fun _ h => h, fun _ _ _ h => h⟩
theorem Same.trans {H H1 H2 : Hp} (a : Same Cl H H1) (b : Same Cl H1 H2) : Same Cl H H2 := ⟨a.d.trans b.d, fun h => b.tb (a.tb h), fun c h => b.live c (a.live c h), fun c o xs h => a.nf c o xs (b.nf c o xs h)⟩
theorem Same.of {H H' : Hp} (e : ∀ b o, H b = some o → H' b = some o) (nf : ∀ b o xs, H' b = some (.frz o (.lst xs)) → H b = some (.frz o (.lst xs))) : Same Cl H H' := ⟨fun b o h _ => e b o h, fun t p hp n => (t p hp n).ext e, fun b h z => (by
  cases q : H b with
  | none => exact h q
  | some o => rw [e b o q] at z; cases z), nf⟩
theorem Same.at {H H' : Hp} (s : Same Cl H H') {b : Addr} {o : HO} (h : H b = some o) (n : ntb o = true := by rfl) : H' b = some o := s.d b o h n
theorem Same.free {H H' : Hp} (s : Same Cl H H') {l : Addr} (h : H' l = Option.none) : H l = Option.none := by
  cases q : H l with
  | none => rfl
  | some o => exact absurd h (s.live l (by rw [q]; intro z; cases z))
theorem zd.seq {K : PySem.W.Frag} {H H' : Hp} {a : Addr} {xs : List V} (e : zd H H') (h : SqL K H a xs) : SqL K H' a xs := by
  rcases h with (h | ⟨o, h⟩) | h
  · exact .inl (.inl (e _ _ h rfl))
  · exact .inl (.inr ⟨o, e _ _ h rfl⟩)
  · exact .inr h
theorem Same.seq {K : PySem.W.Frag} {H H' : Hp} {a : Addr} {xs : List V} (e : Same Cl H H') (h : SqL K H a xs) : SqL K H' a xs := e.d.seq h
end
open Classical in
noncomputable def hide (H : Hp) (Z : Addr → Prop) : Hp := fun b => if Z b then none else H b
theorem zi {H : Hp} {Z : Addr → Prop} {b : Addr} {o : HO} (h : hide H Z b = some o) : ¬ Z b ∧ H b = some o := by
  unfold hide at h
  split at h
  · cases h
  · rename_i n
    exact ⟨n, h⟩
theorem ze {H : Hp} {Z : Addr → Prop} {b : Addr} {o : HO} (n : ¬ Z b) (h : H b = some o) : hide H Z b = some o := by
  unfold hide
  rw [if_neg n]
  exact h
theorem vd {H H' : Hp} {Z Z' : Addr → Prop} (s : zd H H') (z : ∀ b, Z' b → Z b ∨ H b = none) : zd (hide H Z) (hide H' Z') := fun b o h nt => by
  obtain ⟨n, e⟩ := zi h
  refine ze (fun q => ?_) (s b o e nt)
  rcases z b q with z1 | z1
  · exact n z1
  · rw [e] at z1; cases z1
theorem xl {Cl : Nat → Addr} {H H' : Hp} {Z Z' : Addr → Prop} (s : Same Cl H H') (z : ∀ b, Z' b → Z b ∨ H b = none) : zd (hide H Z) (hide H' Z') := vd s.d z
theorem kf {H : Hp} {Z : Addr → Prop} : zd (hide H Z) H := fun b o h _ => (zi h).2
theorem Rd.same {H H' : Hp} {a : Addr} {u : HO} (s : zd H H') (h : Rd H a u) (n : ntb u = true := by rfl) : Rd H' a u := by
  rcases h with h | ⟨o, h⟩
  · exact .inl (s _ _ h n)
  · exact .inr ⟨o, s _ _ h rfl⟩
theorem SqT.same {K : PySem.W.Frag} {H H' : Hp} {a : Addr} {xs : List V} (s : zd H H') (h : SqT K H a xs) : SqT K H' a xs := by
  rcases h with (h | ⟨o, h⟩) | h
  · exact .inl (.inl (s _ _ h rfl))
  · exact .inl (.inr ⟨o, s _ _ h rfl⟩)
  · exact .inr h
abbrev qW (ns : List Int) : D := .dict (ns.map fun n => (.int n, .none))
abbrev qdh (C : Addr) (i : Int) : D := .dict [(.str "at", .int i), (.int (C : Nat), .none)]
def kbn : List (D × D) → Bool
  | (.str _, _) :: _ => true
  | _ => false
@[simp] def zcz : D → Bool
  | .dict ks => kbn ks
  | _ => false
@[simp] theorem vbG (ns : List Int) : kbn (ns.map fun n => ((.int n, .none) : D × D)) = false := by cases ns <;> rfl
mutual
inductive Dp (K : PySem.W.Frag) (H : Hp) : V → D → Prop
  | non : Dp K H .non .none
  | bl (b : Bool) : Dp K H (.bl b) (.bool b)
  | int (i : Int) : Dp K H (.int i) (.int i)
  | str (x : Str) : Dp K H (.str x) (.str x)
  | lst {a : Addr} {xs : List V} {ds : List D} : Rd H a (.lst xs) → DpAll K H xs ds → Dp K H (.ref a) (.list ds)
  | tup {a : Addr} {xs : List V} {ds : List D} : SqT K H a xs → DpAll K H xs ds → Dp K H (.ref a) (.tuple ds)
  | qW {a : Addr} {ns : List Int} : SqL K H a (ns.map V.int) → Dp K H (.ref a) (.dict (ns.map fun n => (.int n, .none)))
  | exc {a dd C : Addr} {i : Int} : H a = some (exo a C (some dd)) → H dd = some (exd dd [("at", .int i)]) → Dp K H (.ref a) (.dict [(.str "at", .int i), (.int (C : Nat), .none)])
inductive DpAll (K : PySem.W.Frag) (H : Hp) : List V → List D → Prop
  | nil : DpAll K H [] []
  | cons {v : V} {vs : List V} {d : D} {ds : List D} : Dp K H v d → DpAll K H vs ds → DpAll K H (v :: vs) (d :: ds)
end
mutual
theorem Dp.up {K : PySem.W.Frag} {H : Hp} : ∀ {v : V} {d : D}, d.canLay0 = true → Dp K H v d → L2.Dp K H v d
  | _, _, _, .non => .non
  | _, _, _, .bl b => .bl b
  | _, _, _, .int i => .int i
  | _, _, _, .str x => .str x
  | _, _, c, .lst h t => .lst (.inl h) (DpAll.up c t)
  | _, _, c, .tup h t => .tup h (DpAll.up c t)
  | _, _, c, .qW h => nomatch c
  | _, _, c, .exc _ _ => nomatch c
theorem DpAll.up {K : PySem.W.Frag} {H : Hp} : ∀ {vs : List V} {ds : List D}, PyData.canLayAll0 ds = true → DpAll K H vs ds → L2.DpAll K H vs ds
  | _, _, _, .nil => .nil
  | _, _, c, .cons h t => by
    have c' := Bool.and_eq_true_iff.mp c
    exact .cons (Dp.up c'.1 h) (DpAll.up c'.2 t)
end
mutual
theorem Dp.same {K : PySem.W.Frag} {H H' : Hp} (s : zd H H') : ∀ {v : V} {d : D}, Dp K H v d → Dp K H' v d
  | _, _, .non => .non
  | _, _, .bl b => .bl b
  | _, _, .int i => .int i
  | _, _, .str x => .str x
  | _, _, .lst h t => .lst (Rd.same s h) (DpAll.same s t)
  | _, _, .tup h t => .tup (SqT.same s h) (DpAll.same s t)
  | _, _, .qW h => .qW (s.seq h)
  | _, _, .exc h1 h2 => .exc (s _ _ h1 rfl) (s _ _ h2 rfl)
theorem DpAll.same {K : PySem.W.Frag} {H H' : Hp} (s : zd H H') : ∀ {vs : List V} {ds : List D}, DpAll K H vs ds → DpAll K H' vs ds
  | _, _, .nil => .nil
  | _, _, .cons h t => .cons (Dp.same s h) (DpAll.same s t)
end
section
variable {K : PySem.W.Frag} {H : Hp}
theorem DpAll.length : ∀ {vs : List V} {ds : List D}, DpAll K H vs ds → vs.length = ds.length
  | _, _, .nil => rfl
  | _, _, .cons _ t => by rw [List.length_cons, List.length_cons, DpAll.length t]
theorem DpAll.get : ∀ {vs : List V} {ds : List D} {i : Nat} {d : D}, DpAll K H vs ds → ds[i]? = some d → ∃ v, vs[i]? = some v ∧ Dp K H v d
  | _, _, _, _, .nil, e => by simp at e
  | _, _, 0, _, .cons h _, e => by simp at e; subst e; exact ⟨_, rfl, h⟩
  | _, _, i + 1, d, .cons _ t, e => by
    obtain ⟨u, h1, h2⟩ := DpAll.get (i := i) (d := d) t (by simpa using e)
    exact ⟨u, by simpa using h1, h2⟩
theorem DpAll.get' : ∀ {vs : List V} {ds : List D} {i : Nat} {v : V}, DpAll K H vs ds → vs[i]? = some v → ∃ d, ds[i]? = some d ∧ Dp K H v d
  | _, _, _, _, .nil, e => by simp at e
  | _, _, 0, _, .cons h _, e => by simp at e; subst e; exact ⟨_, rfl, h⟩
  | _, _, i + 1, v, .cons _ t, e => by
    obtain ⟨u, h1, h2⟩ := DpAll.get' (i := i) (v := v) t (by simpa using e)
    exact ⟨u, by simpa using h1, h2⟩
theorem DpAll.append : ∀ {xs ys : List V} {ds es : List D}, DpAll K H xs ds → DpAll K H ys es → DpAll K H (xs ++ ys) (ds ++ es)
  | _, _, _, _, .nil, s => s
  | _, _, _, _, .cons r t, s => .cons r (DpAll.append t s)
theorem DpAll.take : ∀ {xs : List V} {ds : List D} (n : Nat), DpAll K H xs ds → DpAll K H (xs.take n) (ds.take n)
  | _, _, 0, _ => .nil
  | _, _, _ + 1, .nil => .nil
  | _, _, n + 1, .cons r t => .cons r (DpAll.take n t)
theorem DpAll.drop : ∀ {xs : List V} {ds : List D} (n : Nat), DpAll K H xs ds → DpAll K H (xs.drop n) (ds.drop n)
  | _, _, 0, r => r
  | _, _, _ + 1, .nil => .nil
  | _, _, n + 1, .cons _ t => DpAll.drop n t
theorem DpAll.set {x : V} {d : D} (r : Dp K H x d) : ∀ {xs : List V} {ds : List D} (i : Nat), DpAll K H xs ds → DpAll K H (xs.set i x) (ds.set i d)
  | _, _, _, .nil => .nil
  | _, _, 0, .cons _ t => .cons r t
  | _, _, i + 1, .cons q t => .cons q (DpAll.set r i t)
theorem DpAll.dropLast {xs : List V} {ds : List D} (h : DpAll K H xs ds) : DpAll K H xs.dropLast ds.dropLast := by
  rw [List.dropLast_eq_take, List.dropLast_eq_take, DpAll.length h]
  exact DpAll.take _ h
theorem Dp.int_inv {v : V} {i : Int} (h : Dp K H v (.int i)) : v = .int i := by cases h; rfl
theorem Dp.str_inv {v : V} {x : Str} (h : Dp K H v (.str x)) : v = .str x := by cases h; rfl
theorem Dp.xa1 {v : V} {b : Bool} (h : Dp K H v (.bool b)) : v = .bl b := by cases h; rfl
theorem Dp.wb8 {v : V} (h : Dp K H v .none) : v = .non := by cases h; rfl
theorem Dp.lst_inv {v : V} {ds : List D} (h : Dp K H v (.list ds)) : ∃ a xs, v = .ref a ∧ Rd H a (.lst xs) ∧ DpAll K H xs ds := by
  cases h with
  | lst h t => exact ⟨_, _, rfl, h, t⟩
theorem Dp.kD {v : V} {ds : List D} (h : Dp K H v (.tuple ds)) : ∃ a xs, v = .ref a ∧ SqT K H a xs ∧ DpAll K H xs ds := by
  cases h with
  | tup h t => exact ⟨_, _, rfl, h, t⟩
theorem DpAll.ints : ∀ {vs : List V} {ns : List Int}, DpAll K H vs (ns.map PyData.int) → vs = ns.map V.int
  | _, [], h => by cases h; rfl
  | _, n :: ns, h => by
    cases h with
    | cons a b =>
      rw [Dp.int_inv a, DpAll.ints b]
      rfl
theorem DpAll.of_ints : ∀ (ns : List Int), DpAll K H (ns.map V.int) (ns.map PyData.int)
  | [] => .nil
  | n :: ns => .cons (.int n) (DpAll.of_ints ns)
end
@[simp] def vj : D → Bool
  | .none => true | .bool _ => true | .int _ => true | .str _ => true
  | _ => false
theorem Dp.scalar {K : PySem.W.Frag} {H H' : Hp} {v : V} {d : D} (s : vj d = true) (h : Dp K H v d) : Dp K H' v d := by
  cases h with
  | non => exact .non
  | bl b => exact .bl b
  | int i => exact .int i
  | str x => exact .str x
  | lst _ _ => cases s
  | tup _ _ => cases s
  | qW _ => cases s
  | exc _ _ => cases s
theorem DpAll.scalar {K : PySem.W.Frag} {H H' : Hp} : ∀ {vs : List V} {ds : List D}, ds.all vj = true → DpAll K H vs ds → DpAll K H' vs ds
  | _, _, _, .nil => .nil
  | _, _, s, .cons h t => by
    rw [List.all_cons, Bool.and_eq_true] at s
    exact .cons (Dp.scalar s.1 h) (DpAll.scalar s.2 t)
inductive Cell where
  | set (ks : List (List Int)) | lst (ds : List D)
def flB (Cl : Nat → Addr) : Bool := Cl 2000 == 0
def qba (b : Bool) (a : Addr) (L : List (Addr × List Int)) : HO := .ext fun h => (∃ o es ep t, h.get? a = some o ∧ o.data = .set es ep t) ∧ ∀ (P : Program) (w : World), w.params.followText "set-order" = b → SetT0 P w h a L
def xN (K : PySem.W.Frag) (Cl : Nat → Addr) (Hs : Hp) (a : Addr) (u : HO) : Cell → Prop
  | .set ks => ∃ L, u = qba (flB Cl) a L ∧ (∀ p ∈ L, SqT K Hs p.1 (p.2.map V.int)) ∧ (∀ k, k ∈ L.map (·.2) ↔ k ∈ ks) ∧ L.length ≤ ks.length
  | .lst ds => ∃ xs, u = .lst xs ∧ DpAll K Hs xs ds
theorem xN.same {K : PySem.W.Frag} {Cl : Nat → Addr} {Hs Hs' : Hp} {a : Addr} {u : HO} {c : Cell} (s : zd Hs Hs') (h : xN K Cl Hs a u c) : xN K Cl Hs' a u c := by
  cases c with
  | set ks =>
    obtain ⟨L, h1, h2, h3⟩ := h
    exact ⟨L, h1, fun p hp => SqT.same s (h2 p hp), h3⟩
  | lst ds =>
    obtain ⟨xs, h1, h2⟩ := h
    exact ⟨xs, h1, DpAll.same s h2⟩
theorem jcc (b : Bool) (a : Addr) (L : List (Addr × List Int)) (q : Str) : qba b a L ≠ LamX.CodeO a q := fun z => by
  unfold qba LamX.CodeO at z
  have e := HO.ext.inj z
  have hg : (⟨Array.replicate (a + 1) { cls := .none, dict := none, data := .fields #[.none, .str q 0] }, {}⟩ : Heap).get? a = some { cls := .none, dict := none, data := .fields #[.none, .str q 0] } := by
    unfold Heap.get?
    dsimp only
    rw [Array.getElem?_replicate, if_pos (Nat.lt_succ_self a)]
  have k := cast (congrFun e _).symm ⟨_, _, _, hg, rfl, rfl⟩
  obtain ⟨⟨o, es, ep, t, h1, h2⟩, _⟩ := k
  rw [hg] at h1
  cases h1
  cases h2
theorem xN.nt {K : PySem.W.Frag} {Cl : Nat → Addr} {Hs : Hp} {a : Addr} {u : HO} {c : Cell} (h : xN K Cl Hs a u c) : (∀ ps, u ≠ .tbl ps) ∧ ∀ q, u ≠ LamX.CodeO a q := by
  cases c with
  | set ks =>
    obtain ⟨L, rfl, h2, h3⟩ := h
    exact ⟨fun ps z => (by unfold qba at z; cases z), fun q => jcc (flB Cl) a L q⟩
  | lst ds =>
    obtain ⟨xs, rfl, h2⟩ := h
    exact ⟨fun ps z => (by cases z), fun q z => (by unfold LamX.CodeO at z; cases z)⟩
theorem xN.nfz {K : PySem.W.Frag} {Cl : Nat → Addr} {Hs : Hp} {a : Addr} {u : HO} {c : Cell} (h : xN K Cl Hs a u c) : ∀ o v, u ≠ .frz o v := by
  cases c with
  | set ks =>
    obtain ⟨L, rfl, h2, h3⟩ := h
    exact fun o v z => (by unfold qba at z; cases z)
  | lst ds =>
    obtain ⟨xs, rfl, h2⟩ := h
    exact fun o v z => (by cases z)
theorem xN.ntb {K : PySem.W.Frag} {Cl : Nat → Addr} {Hs : Hp} {a : Addr} {u : HO} {c : Cell} (h : xN K Cl Hs a u c) : ntb u = true := by
  have n := h.nt.1
  cases u <;> first | rfl | exact absurd rfl (n _)
theorem Same.yV {Cl : Nat → Addr} {K : PySem.W.Frag} {H H' Hs : Hp} {a : Addr} {u : HO} {c : Cell} (s : Same Cl H H') (h : xN K Cl Hs a u c) (e : H a = some u) : H' a = some u := s.d a u e h.ntb
def waq : Nat → List Str
  | 3000 => ["size", "piece", "total", "number", "kind", "stamp", "ticks", "skip", "rows", "tags", "spots", "named"]
  | 3001 => ["walk", "found", "contents", "stuck"]
  | _ => []
inductive OF where
  | dat (d : D) | dic (ps : List (Int × D)) | sub (k : Nat) (fs : List OF)
inductive qm (K : PySem.W.Frag) (Hs : Hp) : List (Key × V) → List (Int × D) → Prop
  | nil : qm K Hs [] []
  | cons {k : Int} {v : V} {d : D} {kvs : List (Key × V)} {ps : List (Int × D)} : Dp K Hs v d → qm K Hs kvs ps → qm K Hs ((.inl k, v) :: kvs) ((k, d) :: ps)
theorem qm.same {K : PySem.W.Frag} {Hs Hs' : Hp} (s : zd Hs Hs') : ∀ {kvs : List (Key × V)} {ps : List (Int × D)}, qm K Hs kvs ps → qm K Hs' kvs ps
  | _, _, .nil => .nil
  | _, _, .cons h t => .cons (Dp.same s h) (qm.same s t)
def waz (K : PySem.W.Frag) (Hs : Hp) (v : V) : OF → Prop
  | .dat d => Dp K Hs v d
  | .dic ps => ∃ n kvs, v = .ref n ∧ Hs n = some (.dK kvs) ∧ qm K Hs kvs ps
  | .sub _ _ => False
def ybF (K : PySem.W.Frag) (Cl : Nat → Addr) (Hs : Hp) (v : V) : OF → Prop
  | .dat d => Dp K Hs v d
  | .dic ps => ∃ n kvs, v = .ref n ∧ Hs n = some (.dK kvs) ∧ qm K Hs kvs ps
  | .sub k fs => ∃ b dx vs, v = .ref b ∧ Hs b = some (.ins (Cl k) dx ((waq k).zip vs)) ∧ vs.length = (waq k).length ∧ fs.length = (waq k).length ∧ ∀ (j : Nat) x, fs[j]? = some x → ∃ u, vs[j]? = some u ∧ waz K Hs u x
theorem waz.same {K : PySem.W.Frag} {Hs Hs' : Hp} {v : V} {x : OF} (m : zd Hs Hs') (h : waz K Hs v x) : waz K Hs' v x := by
  cases x with
  | dat d => exact Dp.same m h
  | dic ps =>
    obtain ⟨n, kvs, f1, f2, f3⟩ := h
    exact ⟨n, kvs, f1, m _ _ f2 rfl, f3.same m⟩
  | sub k fs => exact h
theorem waz.up {K : PySem.W.Frag} {Cl : Nat → Addr} {Hs : Hp} {v : V} {x : OF} (h : waz K Hs v x) : ybF K Cl Hs v x := by
  cases x with
  | dat d => exact h
  | dic ps => exact h
  | sub k fs => exact h.elim
structure qbo (K : PySem.W.Frag) (Cl : Nat → Addr) (Hs : Hp) (a : Addr) (k : Nat) (fs : List OF) : Prop where
  go : ∃ (dx : Addr) (vs : List V), Hs a = some (.ins (Cl k) dx ((waq k).zip vs)) ∧ vs.length = (waq k).length ∧ fs.length = (waq k).length ∧ ∀ (j : Nat) x, fs[j]? = some x → ∃ v, vs[j]? = some v ∧ ybF K Cl Hs v x
def z6 (K : PySem.W.Frag) (Cl : Nat → Addr) (Hs : Hp) (o : Option (Option V)) (k : Nat) (fs : List OF) : Prop := ∃ a, o = some (some (.ref a)) ∧ qbo K Cl Hs a k fs
theorem qbo.same {K : PySem.W.Frag} {Cl : Nat → Addr} {Hs Hs' : Hp} {a : Addr} {k : Nat} {fs : List OF} (m : zd Hs Hs') (q : qbo K Cl Hs a k fs) : qbo K Cl Hs' a k fs := by
  obtain ⟨dx, vs, e1, e2, e3, e4⟩ := q
  refine ⟨dx, vs, m _ _ e1 rfl, e2, e3, fun j x hx => ?_⟩
  obtain ⟨v, hv, hf⟩ := e4 j x hx
  refine ⟨v, hv, ?_⟩
  cases x with
  | dat d => exact Dp.same m hf
  | dic ps =>
    obtain ⟨n, kvs, f1, f2, f3⟩ := hf
    exact ⟨n, kvs, f1, m _ _ f2 rfl, f3.same m⟩
  | sub k2 fs2 =>
    obtain ⟨b, dx2, vs2, f1, f2, f3, f4, f5⟩ := hf
    exact ⟨b, dx2, vs2, f1, m _ _ f2 rfl, f3, f4, fun j2 x2 h2 => (f5 j2 x2 h2).imp fun u q => ⟨q.1, q.2.same m⟩⟩
theorem z6.same {K : PySem.W.Frag} {Cl : Nat → Addr} {Hs Hs' : Hp} {o : Option (Option V)} {k : Nat} {fs : List OF} (m : zd Hs Hs') (q : z6 K Cl Hs o k fs) : z6 K Cl Hs' o k fs := by
  obtain ⟨a, e, q⟩ := q
  exact ⟨a, e, q.same m⟩
inductive Slot where
  | un | dat (d : D) | own (ds : List D) | err (a dd : Addr) (i : Int) | ownT (a : Addr) (k : Nat) (ds : List D) | yV (a : Addr) (c : Cell) | pin (a : Addr) | ob (k : Nat) (fs : List OF)
abbrev jc := List Slot
def qo (σ : St) (ρ : jc) (i : Nat) (a : Addr) : Prop := (σ[i]? = some (some (.ref a)) ∧ ∃ ds, ρ[i]? = some (.own ds)) ∨ (∃ k ds, ρ[i]? = some (.ownT a k ds)) ∨ ∃ c, ρ[i]? = some (.yV a c)
def Slot.j6 : Slot → Prop
  | .own _ => True
  | .ownT _ _ _ => True
  | .yV _ _ => True
  | _ => False
structure qaQ (K : PySem.W.Frag) (H Hs : Hp) (T a : Addr) (k : Nat) (ds : List D) : Prop where
  go : ∃ (xs ys : List V) (es : List D), SqT K Hs T xs ∧ DpAll K Hs (xs.set k .non) (ds.set k .none) ∧ xs[k]? = some (.ref a) ∧ ds[k]? = some (.list es) ∧ H a = some (.lst ys) ∧ DpAll K Hs ys es
def qk (σ : St) (ρ : jc) (a : Addr) : Prop := ∃ i, qo σ ρ i a
def Zo (Z : Addr → Prop) (σ : St) (ρ : jc) : Addr → Prop := fun b => Z b ∨ qk σ ρ b
def ka1 (K : PySem.W.Frag) (Cl : Nat → Addr) (H Hs : Hp) (o : Option (Option V)) : Slot → Prop
  | .un => True
  | .dat d => ∃ v, o = some (some v) ∧ Dp K Hs v d
  | .own ds => ∃ a xs, o = some (some (.ref a)) ∧ H a = some (.lst xs) ∧ DpAll K Hs xs ds
  | .err a dd i => o = some (some (.ref a)) ∧ H dd = some (.xd [(("at" : Str), .int i)])
  | .ownT a k ds => ∃ T, o = some (some (.ref T)) ∧ qaQ K H Hs T a k ds
  | .yV a c => o = some (some (.ref a)) ∧ ∃ u, H a = some u ∧ xN K Cl Hs a u c
  | .pin a => o = some (some (.ref a))
  | .ob k fs => z6 K Cl Hs o k fs
structure DI (K : PySem.W.Frag) (Cl : Nat → Addr) (Z : Addr → Prop) (H : Hp) (σ : St) (ρ : jc) : Prop where
  len : ρ.length = σ.length
  one : ∀ i j a, qo σ ρ i a → qo σ ρ j a → i = j
  out : ∀ a, qk σ ρ a → ¬ Z a
  live : ∀ a, Z a → H a ≠ none
  slots : ∀ (i : Nat) s, ρ[i]? = some s → ka1 K Cl H (hide H (Zo Z σ ρ)) (σ[i]?) s
  tb : TBl Cl H
section
variable {K : PySem.W.Frag} {Cl : Nat → Addr} {Z : Addr → Prop} {H H' : Hp} {σ : St} {ρ : jc}
theorem DI.yaI (I : DI K Cl Z H σ ρ) {a : Addr} (h : qk σ ρ a) : H a ≠ none := by
  obtain ⟨i, ⟨h1, ds, h2⟩ | ⟨k, ds, h2⟩ | ⟨c, h2⟩⟩ := h
  · obtain ⟨b, xs, e, hb, _⟩ := I.slots i _ h2
    rw [h1] at e
    cases e
    rw [hb]
    intro z; cases z
  · obtain ⟨T, e, ⟨xs, ys, es, _, _, _, _, hb, _⟩⟩ := I.slots i _ h2
    rw [hb]
    intro z; cases z
  · obtain ⟨_, u, hb, _⟩ := I.slots i _ h2
    rw [hb]
    intro z; cases z
theorem DI.jZ (I : DI K Cl Z H σ ρ) {a : Addr} (h : Zo Z σ ρ a) : H a ≠ none := by
  rcases h with h | h
  · exact I.live a h
  · exact I.yaI h
theorem qaQ.same {Hs Hs' : Hp} {T a : Addr} {k : Nat} {ds : List DL.D} (m : zd Hs Hs') (h : ∀ ys, H a = some (.lst ys) → H' a = some (.lst ys)) (t : qaQ K H Hs T a k ds) : qaQ K H' Hs' T a k ds := by
  obtain ⟨xs, ys, es, h1, h2, h3, h4, h5, h6⟩ := t
  exact ⟨xs, ys, es, SqT.same m h1, DpAll.same m h2, h3, h4, h _ h5, DpAll.same m h6⟩
theorem DI.same (I : DI K Cl Z H σ ρ) (s : Same Cl H H') : DI K Cl Z H' σ ρ := by
  refine ⟨I.len, I.one, I.out, fun a h => s.live a (I.live a h), fun i sl e => ?_, s.tb I.tb⟩
  · have q := I.slots i sl e
    have m : zd (hide H (Zo Z σ ρ)) (hide H' (Zo Z σ ρ)) := xl s fun b h => .inl h
    cases sl with
    | un => trivial
    | dat d =>
      obtain ⟨v, e1, h⟩ := q
      exact ⟨v, e1, Dp.same m h⟩
    | own ds =>
      obtain ⟨a, xs, e1, e2, h⟩ := q
      exact ⟨a, xs, e1, s.at e2, DpAll.same m h⟩
    | err a dd j => exact ⟨q.1, s.at q.2⟩
    | ownT a k ds =>
      obtain ⟨T, e1, h⟩ := q
      exact ⟨T, e1, h.same m fun _ z => s.at z⟩
    | pin a => exact q
    | ob k fs => exact z6.same m q
    | yV a c =>
      obtain ⟨e1, u, e2, h⟩ := q
      exact ⟨e1, u, s.yV h e2, h.same m⟩
end
inductive Val where
  | s (d : D) | m (d : D) | b (ds : List D) | f (ds : List D)
@[simp] def Val.d : Val → D
  | .s d => d
  | .m d => d
  | .b ds => .list ds
  | .f ds => .list ds
abbrev Er := Nat × Int
abbrev FE := jc → Option (Except Er Val)
def ZP (Z : Addr → Prop) (p : Addr) : Addr → Prop := fun b => Z b ∨ b = p
def qx (K : PySem.W.Frag) (Z : Addr → Prop) (σ : St) (ρ : jc) (H H1 : Hp) (x : V) : Val → Prop
  | .s d => Dp K (hide H1 (Zo Z σ ρ)) x d
  | .m d => Dp K (hide H1 Z) x d
  | .b ds => ∃ p xs, x = .ref p ∧ qk σ ρ p ∧ H1 p = some (.lst xs) ∧ DpAll K (hide H1 (Zo Z σ ρ)) xs ds
  | .f ds => ∃ p xs, x = .ref p ∧ H p = none ∧ H1 p = some (.lst xs) ∧ DpAll K (hide H1 (ZP (Zo Z σ ρ) p)) xs ds
def qS (Cl : Nat → Addr) (W : WX) (σ : St) (H : Hp) (e : Er) : Prop :=
  ∀ dd H', Same Cl H H' → H' dd = some (.xd [(("at" : Str), .int e.2)]) → W (.ref (Cl e.1)) (some dd) σ H'
def ROk (K : PySem.W.Frag) (Cl : Nat → Addr) (W : WX) (Z : Addr → Prop) (σ : St) (ρ : jc) (H : Hp) (Q : VK) : Except Er Val → Prop
  | .ok v => ∀ x H', Same Cl H H' → qx K Z σ ρ H H' x v → Q x H'
  | .error e => qS Cl W σ H e
def vM (K : PySem.W.Frag) (Cl : Nat → Addr) (W : WX) (f : FE) : TE := fun σ H Q => ∃ Z ρ r, DI K Cl Z H σ ρ ∧ f ρ = some r ∧ ROk K Cl W Z σ ρ H Q r
def DE (X : Cx) (Cl : Nat → Addr) (W : WX) (e : Expr) (f : FE) : Prop := PE X e (vM X.K Cl W f)
theorem PE.imp {X : Cx} {e : Expr} {t t' : TE} (h : PE X e t) (i : ∀ σ H Q, t' σ H Q → t σ H Q) : PE X e t' := ⟨fun pins s σ H Q I q => h.run pins s σ H Q I (i σ H Q q)⟩
theorem PT.imp {X : Cx} {e : Expr} {t t' : TT} (h : PT X e t) (i : ∀ σ H Q, t' σ H Q → t σ H Q) : PT X e t' := ⟨fun pins s σ H Q I q => h.run pins s σ H Q I (i σ H Q q)⟩
theorem PW.imp {X : Cx} {e : Expr} {t t' : TT} (h : PW X e t) (i : ∀ σ H Q, t' σ H Q → t σ H Q) : PW X e t' := ⟨fun wh pins s σ H Q I q => h.run wh pins s σ H Q I (i σ H Q q)⟩
theorem PA.imp {X : Cx} {e : List Expr} {t t' : TA} (h : PA X e t) (i : ∀ σ H Q, t' σ H Q → t σ H Q) : PA X e t' := ⟨fun pos pins s σ H Q I q => h.run pos pins s σ H Q I (i σ H Q q)⟩
theorem PS.imp {X : Cx} {e : Stmt} {t t' : TS} (h : PS X e t) (i : ∀ D σ H, t' D σ H → t D σ H) : PS X e t' := ⟨fun pins s σ H D I q => h.run pins s σ H D I (i D σ H q)⟩
theorem PSs.imp {X : Cx} {e : List Stmt} {t t' : TS} (h : PSs X e t) (i : ∀ D σ H, t' D σ H → t D σ H) : PSs X e t' := ⟨fun pins s σ H D I q => h.run pins s σ H D I (i D σ H q)⟩
section
variable {K : PySem.W.Frag} {Cl : Nat → Addr} {W : WX} {Z : Addr → Prop} {H H' H1 H2 : Hp} {σ : St} {ρ : jc} {Q : VK}
theorem qx.same {x : V} {v : Val} (s : Same Cl H1 H2) (h : qx K Z σ ρ H H1 x v) : qx K Z σ ρ H H2 x v := by
  cases v with
  | s d => exact Dp.same (xl s fun _ h => .inl h) h
  | m d => exact Dp.same (xl s fun _ h => .inl h) h
  | b ds =>
    obtain ⟨p, xs, e, n, h1, h2⟩ := h
    exact ⟨p, xs, e, n, s.at h1, DpAll.same (xl s fun _ h => .inl h) h2⟩
  | f ds =>
    obtain ⟨p, xs, e, n, h1, h2⟩ := h
    exact ⟨p, xs, e, n, s.at h1, DpAll.same (xl s fun _ h => .inl h) h2⟩
theorem qx.back {x : V} {v : Val} (s : Same Cl H H1) (h : qx K Z σ ρ H1 H2 x v) : qx K Z σ ρ H H2 x v := by
  cases v with
  | s d => exact h
  | m d => exact h
  | b ds => exact h
  | f ds =>
    obtain ⟨p, xs, e, n, h1, h2⟩ := h
    exact ⟨p, xs, e, s.free n, h1, h2⟩
theorem qx.dp {x : V} {v : Val} (I : DI K Cl Z H σ ρ) (h : qx K Z σ ρ H H1 x v) : Dp K (hide H1 Z) x v.d := by
  cases v with
  | s d => exact Dp.same (vd (zd.refl _) fun _ h => .inl (.inl h)) h
  | m d => exact h
  | b ds =>
    obtain ⟨p, xs, rfl, n, h1, h2⟩ := h
    exact .lst (Rd.of (ze (I.out p n) h1)) (DpAll.same (vd (zd.refl _) fun _ h => .inl (.inl h)) h2)
  | f ds =>
    obtain ⟨p, xs, rfl, n, h1, h2⟩ := h
    have np : ¬ Z p := fun z => I.live p z n
    exact .lst (Rd.of (ze np h1)) (DpAll.same (vd (zd.refl _) fun _ h => .inl (.inl (.inl h))) h2)
@[simp] def Val.st : Val → Option D
  | .s d => some d
  | .m d => if vj d = true then some d else none
  | .b _ => none
  | .f ds => some (.list ds)
theorem qx.stab {x : V} {v : Val} {d : D} (I : DI K Cl Z H σ ρ) (e : v.st = some d) (h : qx K Z σ ρ H H1 x v) : Dp K (hide H1 (Zo Z σ ρ)) x d := by
  cases v with
  | s d' => cases e; exact h
  | m d' =>
    simp only [Val.st] at e
    split at e
    · rename_i sc
      cases e
      exact Dp.scalar sc h
    · cases e
  | b ds => cases e
  | f ds =>
    cases e
    obtain ⟨p, xs, rfl, n, h1, h2⟩ := h
    have np : ¬ Zo Z σ ρ p := fun z => I.jZ z n
    exact .lst (Rd.of (ze np h1)) (DpAll.same (vd (zd.refl _) fun _ h => .inl (.inl h)) h2)
theorem qS.same {e : Er} (s : Same Cl H H1) (h : qS Cl W σ H e) : qS Cl W σ H1 e := fun dd H' s' => h dd H' (s.trans s')
theorem ROk.from {r : Except Er Val} (s : Same Cl H H1) (h : ROk K Cl W Z σ ρ H Q r) : ROk K Cl W Z σ ρ H1 Q r := by
  cases r with
  | error e => exact qS.same s h
  | ok v => exact fun x H' s' hv => h x H' (s.trans s') (hv.back s)
end
@[simp] def bE (f : FE) (k : Val → FE) (ρ : jc) : Option (Except Er Val) := match f ρ with
  | none => none
  | some (.error e) => some (.error e)
  | some (.ok v) => k v ρ
@[simp] def ok (d : D) : Option (Except Er Val) := some (.ok (.s d))
theorem xab {K : PySem.W.Frag} {Cl : Nat → Addr} {W : WX} {Z : Addr → Prop} {H : Hp} {σ : St} {ρ : jc} {Q Q1 : VK} {f : FE} {k : Val → FE} {r : Except Er Val} (I : DI K Cl Z H σ ρ) (h : bE f k ρ = some r) (q : ROk K Cl W Z σ ρ H Q r)
    (go : ∀ v x H1, f ρ = some (.ok v) → k v ρ = some r → Same Cl H H1 → qx K Z σ ρ H H1 x v → DI K Cl Z H1 σ ρ → ROk K Cl W Z σ ρ H1 Q r → Q1 x H1) : vM K Cl W f σ H Q1 := by
  unfold bE at h
  cases e : f ρ with
  | none => rw [e] at h; cases h
  | some r1 =>
    rw [e] at h
    cases r1 with
    | error er =>
      cases h
      exact ⟨Z, ρ, .error er, I, e, q⟩
    | ok v => exact ⟨Z, ρ, .ok v, I, e, fun x H1 s hv => go v x H1 e h s hv (I.same s) (q.from s)⟩
theorem ROk.scalar {K : PySem.W.Frag} {Cl : Nat → Addr} {W : WX} {Z : Addr → Prop} {H : Hp} {σ : St} {ρ : jc} {Q : VK} {d : D} {v : V} (q : ROk K Cl W Z σ ρ H Q (.ok (.s d))) (h : ∀ H', Dp K H' v d) : Q v H := q v H (Same.refl _) (h _)
section
variable {X : Cx} {Cl : Nat → Addr} {W : WX} {a b c e : Expr} {es : List Expr} {fa fb fc f : FE} {pos : Pos}
@[simp] def eC (d : D) (ρ : jc) : Option (Except Er Val) := ok d
theorem zaT {v : V} {d : D} (h : PE X e (tC v)) (hv : ∀ H, Dp X.K H v d) : DE X Cl W e (eC d) :=
  PE.imp h fun σ H Q ⟨Z, ρ, r, I, e, q⟩ => by cases e; exact q.scalar hv
theorem ka {i : Int} {j pos} : DE X Cl W (.Constant (.int i) j pos) (eC (.int i)) := zaT pe_int fun _ => .int i
theorem yx {j pos} : DE X Cl W (.Constant .none j pos) (eC .none) := zaT pe_non fun _ => .non
theorem zx {x : Str} {i : Int} {t : Tok} (hm : X.mg x = some (.int i t)) (hg : Gl X x := by rfl) (hd : (x == ("__debug__" : Str)) = false := by decide) : DE X Cl W (.Name x pos) (eC (.int i)) := zaT (pe_glob (v := .int i) hg hm ⟨t, rfl⟩ hd) fun _ => .int i
theorem jbH {x : Str} {p : Addr} {d : D} (hm : X.mg x = some (.ref p)) (ht : ∀ H, Dp X.K H (.ref p) d) (hg : Gl X x := by rfl) (hd : (x == ("__debug__" : Str)) = false := by decide) : DE X Cl W (.Name x pos) (eC d) := zaT (pe_glob (v := .ref p) hg hm rfl hd) ht
@[simp] def eV (i : Nat) (ρ : jc) : Option (Except Er Val) := match ρ[i]? with
  | some (.dat d) => ok d
  | some (.own ds) => some (.ok (.b ds))
  | some (.ownT _ _ ds) => some (.ok (.m (.tuple ds)))
  | _ => none
theorem qaQ.read {K : PySem.W.Frag} {Z : Addr → Prop} {H : Hp} {σ : St} {ρ : jc} {T a : Addr} {k : Nat} {ds : List D} (I : DI K Cl Z H σ ρ) (o : qk σ ρ a) (t : qaQ K H (hide H (Zo Z σ ρ)) T a k ds) : Dp K (hide H Z) (.ref T) (.tuple ds) := by
  obtain ⟨xs, ys, es, h1, h2, h3, h4, h5, h6⟩ := t
  have m : zd (hide H (Zo Z σ ρ)) (hide H Z) := vd (zd.refl _) fun _ h => .inl (.inl h)
  refine .tup (SqT.same m h1) ?_
  have hl : Dp K (hide H Z) (.ref a) (.list es) := .lst (Rd.of (ze (I.out a o) h5)) (DpAll.same m h6)
  have q := DpAll.set hl k (DpAll.same m h2)
  rw [List.set_set, List.set_set] at q
  obtain ⟨hk, e3⟩ := List.getElem?_eq_some_iff.mp h3
  obtain ⟨hk2, e4⟩ := List.getElem?_eq_some_iff.mp h4
  have r3 : xs.set k (.ref a) = xs := by rw [← e3]; exact List.set_getElem_self hk
  have r4 : ds.set k (.list es) = ds := by rw [← e4]; exact List.set_getElem_self hk2
  rw [r3, r4] at q
  exact q
theorem za {i : Nat} {x : Str} (h : PE X (.Name x pos) (tVar i)) : DE X Cl W (.Name x pos) (eV i) := PE.imp h fun σ H Q ⟨Z, ρ, r, I, e, q⟩ => by
  unfold eV at e
  split at e
  · rename_i d hd
    cases e
    obtain ⟨v, hv, hp⟩ := I.slots i _ hd
    exact ⟨v, hv, q v H (Same.refl _) hp⟩
  · rename_i ds hd
    cases e
    obtain ⟨p, xs, hv, hp, hds⟩ := I.slots i _ hd
    exact ⟨_, hv, q _ H (Same.refl _) ⟨p, xs, rfl, ⟨i, .inl ⟨hv, ds, hd⟩⟩, hp, hds⟩⟩
  · rename_i a k ds hd
    cases e
    obtain ⟨T, hv, t⟩ := I.slots i _ hd
    exact ⟨_, hv, q _ H (Same.refl _) (t.read I ⟨i, .inr (.inl ⟨k, ds, hd⟩)⟩)⟩
  · cases e
def w6 (K : PySem.W.Frag) (r : R2) (g : Val → Val → Option Val) : Prop := ∀ (Cl : Nat → Addr) (Z : Addr → Prop) (σ : St) (ρ : jc) (H0 H : Hp) (x y : V) (a b v : Val) (Q : VK), DI K Cl Z H0 σ ρ → Same Cl H0 H → qx K Z σ ρ H0 H x a → qx K Z σ ρ H0 H y b → g a b = some v →
  (∀ z H', Same Cl H H' → qx K Z σ ρ H0 H' z v → Q z H') → r x y H Q
def e2 (g : Val → Val → Option Val) (fa fb : FE) : FE := bE fa fun a => bE fb fun b _ => (g a b).map .ok
theorem wbH {r : R2} {g : Val → Val → Option Val} (h : PE X e (tOp r (vM X.K Cl W fa) (vM X.K Cl W fb))) (hr : w6 X.K r g) : DE X Cl W e (e2 g fa fb) := PE.imp h fun σ H Q ⟨Z, ρ, r1, I, e, q⟩ => by
  refine xab I e q fun v x H1 _ h1 s1 hv I1 q1 => xab I1 h1 q1 fun u y H2 _ h2 s2 hu I2 q2 => ?_
  cases hg : g v u with
  | none => rw [hg] at h2; cases h2
  | some w =>
    rw [hg] at h2
    cases h2
    exact hr Cl Z σ ρ H H2 x y v u w Q I (s1.trans s2) (hv.same s2) (hu.back s1) hg fun z H' s' hz => q z H' (s1.trans (s2.trans s')) hz
theorem xam {op : Operator} {r : R2} {g : Val → Val → Option Val} (ho : OpR X (binaryOp op) r) (hr : w6 X.K r g) (ha : DE X Cl W a fa) (hb : DE X Cl W b fb) : DE X Cl W (.BinOp a op b pos) (e2 g fa fb) := wbH (pe_op ho ha hb) hr
theorem zcZ {op : CmpOp} {r : R2} {g : Val → Val → Option Val} (ho : OpR X (compareOp op) r) (hr : w6 X.K r g) (ha : DE X Cl W a fa) (hb : DE X Cl W b fb) (hm : behindInMarks op b = false) : DE X Cl W (.Compare a [op] [b] pos) (e2 g fa fb) := wbH (pe_cmpR ho ha hb hm) hr
theorem w6.or {K : PySem.W.Frag} {r r' : R2} {g g' : Val → Val → Option Val} (h : w6 K r g) (h' : w6 K r' g') : w6 K (fun x y H Q => r x y H Q ∨ r' x y H Q) (fun a b => (g a b).or (g' a b)) := fun Cl Z σ ρ H0 H x y a b v Q I s ha hb e q => by
  have e : (g a b).or (g' a b) = some v := e
  cases hg : g a b with
  | some w =>
    rw [hg] at e
    cases e
    exact .inl (h Cl Z σ ρ H0 H x y a b _ Q I s ha hb hg q)
  | none =>
    rw [hg] at e
    exact .inr (h' Cl Z σ ρ H0 H x y a b _ Q I s ha hb e q)
@[simp] def gI (F : Int → Int → D) (a b : Val) : Option Val := match a.d, b.d with
  | .int i, .int j => some (.s (F i j))
  | _, _ => none
@[simp] def gIc (C : Int → Int → Bool) (F : Int → Int → D) (a b : Val) : Option Val := match a.d, b.d with
  | .int i, .int j => if C i j = true then some (.s (F i j)) else none
  | _, _ => none
variable {K : PySem.W.Frag} {Cl : Nat → Addr}
theorem qx.int_inv {Z : Addr → Prop} {σ : St} {ρ : jc} {H0 H : Hp} {x : V} {a : Val} {i : Int} (I : DI K Cl Z H0 σ ρ) (h : qx K Z σ ρ H0 H x a) (e : a.d = .int i) : x = .int i := by
  have q := h.dp I
  rw [e] at q
  exact q.int_inv
theorem qx.str_inv {Z : Addr → Prop} {σ : St} {ρ : jc} {H0 H : Hp} {x : V} {a : Val} {i : Str} (I : DI K Cl Z H0 σ ρ) (h : qx K Z σ ρ H0 H x a) (e : a.d = .str i) : x = .str i := by
  have q := h.dp I
  rw [e] at q
  exact q.str_inv
theorem qx.xa1 {Z : Addr → Prop} {σ : St} {ρ : jc} {H0 H : Hp} {x : V} {a : Val} {i : Bool} (I : DI K Cl Z H0 σ ρ) (h : qx K Z σ ρ H0 H x a) (e : a.d = .bool i) : x = .bl i := by
  have q := h.dp I
  rw [e] at q
  exact q.xa1
theorem kbe {g : Int → Int → V} {F : Int → Int → D} (h : ∀ i j H, Dp K H (g i j) (F i j)) : w6 K (rI0 g) (gI F) := fun Cl Z σ ρ H0 H x y a b v Q I s ha hb e q => by
  unfold gI at e
  split at e
  · rename_i i j e1 e2
    cases e
    exact ⟨i, j, ha.int_inv I e1, hb.int_inv I e2, q _ H (Same.refl _) (h i j _)⟩
  · cases e
theorem zba {C : Int → Int → Prop} {c : Int → Int → Bool} {g : Int → Int → V} {F : Int → Int → D} (hc : ∀ i j, c i j = true → C i j) (h : ∀ i j H, Dp K H (g i j) (F i j)) : w6 K (rI C g) (gIc c F) := fun Cl Z σ ρ H0 H x y a b v Q I s ha hb e q => by
  unfold gIc at e
  split at e
  · rename_i i j e1 e2
    split at e
    · rename_i hcc
      cases e
      exact ⟨i, j, ha.int_inv I e1, hb.int_inv I e2, hc i j hcc, q _ H (Same.refl _) (h i j _)⟩
    · cases e
  · cases e
def jbo (i j : Int) : Bool := decide (0 < j) && decide (j < 1073741824)
def ycc (i j : Int) : Bool := decide (0 < j)
def jaT (i j : Int) : Bool := (decide (-(2 ^ 64) < i) && decide (i < 2 ^ 64)) || (decide (-(2 ^ 64) < j) && decide (j < 2 ^ 64))
def zaK (i j : Int) : Bool := decide (0 ≤ j) && (decide (j ≤ 1000000) && decide (i.natAbs < 2 ^ 64))
def wbo (i j : Int) : Bool := decide (0 ≤ j)
@[simp] def jq (a b : Val) : Option Val := (gIc jaT fun i j => .int (i * j)) a b
@[simp] def ya2 (a b : Val) : Option Val := (gIc jbo fun i j => .int (i / j)) a b
@[simp] def zW (a b : Val) : Option Val := (gIc ycc fun i j => .int (i % j)) a b
@[simp] def qcA (a b : Val) : Option Val := (gIc zaK fun i j => .int (i ^ j.toNat)) a b
@[simp] def zV (a b : Val) : Option Val := (gIc zaK fun i j => .int (i * 2 ^ j.toNat)) a b
@[simp] def vF (a b : Val) : Option Val := (gIc wbo fun i j => .int (i / 2 ^ j.toNat)) a b
@[simp] def gSub (a b : Val) : Option Val := (gI fun i j => .int (i - j)) a b
@[simp] def xcc (a b : Val) : Option Val := (gI fun i j => .int (i + j)) a b
@[simp] def jx (a b : Val) : Option Val := (gI fun i j => .int (Builtin.bitAnd i j)) a b
@[simp] def gOr (a b : Val) : Option Val := (gI fun i j => .int (Builtin.bitOr i j)) a b
@[simp] def jV (a b : Val) : Option Val := (gI fun i j => .int (Builtin.bitXor i j)) a b
@[simp] def gLt (a b : Val) : Option Val := (gI fun i j => .bool (decide (i < j))) a b
@[simp] def gLe (a b : Val) : Option Val := (gI fun i j => .bool (decide (i ≤ j))) a b
@[simp] def gGt (a b : Val) : Option Val := (gI fun i j => .bool (decide (j < i))) a b
@[simp] def gGe (a b : Val) : Option Val := (gI fun i j => .bool (decide (j ≤ i))) a b
theorem kb8 (i j : Int) (h : zaK i j = true) : CPow i j := by
  simp only [zaK, Bool.and_eq_true, decide_eq_true_eq] at h
  exact ⟨h.1, h.2.1, h.2.2⟩
theorem zcT (i j : Int) (h : jaT i j = true) : CMul i j := by
  simp only [jaT, Bool.and_eq_true, Bool.or_eq_true, decide_eq_true_eq] at h
  exact h
theorem jcT (i j : Int) (h : jbo i j = true) : CDiv i j := by
  simp only [jbo, Bool.and_eq_true, decide_eq_true_eq] at h
  exact h
theorem xan (ha : DE X Cl W a fa) (hb : DE X Cl W b fb) : DE X Cl W (.BinOp a .Sub b pos) (e2 gSub fa fb) := xam op_sub (kbe fun i j _ => .int _) ha hb
theorem kH (ha : DE X Cl W a fa) (hb : DE X Cl W b fb) : DE X Cl W (.BinOp a .Mult b pos) (e2 jq fa fb) := xam op_mul (zba zcT fun i j _ => .int _) ha hb
theorem ycq (ha : DE X Cl W a fa) (hb : DE X Cl W b fb) : DE X Cl W (.BinOp a .FloorDiv b pos) (e2 ya2 fa fb) := xam op_fdiv (zba jcT fun i j _ => .int _) ha hb
theorem xaz (ha : DE X Cl W a fa) (hb : DE X Cl W b fb) : DE X Cl W (.BinOp a .Mod b pos) (e2 zW fa fb) := xam op_mod (zba (fun _ _ h => of_decide_eq_true h) fun i j _ => .int _) ha hb
theorem jcZ (ha : DE X Cl W a fa) (hb : DE X Cl W b fb) : DE X Cl W (.BinOp a .Pow b pos) (e2 qcA fa fb) := xam op_pow (zba kb8 fun i j _ => .int _) ha hb
theorem kan (ha : DE X Cl W a fa) (hb : DE X Cl W b fb) : DE X Cl W (.BinOp a .LShift b pos) (e2 zV fa fb) := xam op_shl (zba kb8 fun i j _ => .int _) ha hb
theorem jW (ha : DE X Cl W a fa) (hb : DE X Cl W b fb) : DE X Cl W (.BinOp a .RShift b pos) (e2 vF fa fb) := xam op_shr (zba (fun _ _ h => of_decide_eq_true h) fun i j _ => .int _) ha hb
theorem yL (ha : DE X Cl W a fa) (hb : DE X Cl W b fb) : DE X Cl W (.BinOp a .BitAnd b pos) (e2 jx fa fb) := xam op_and (kbe fun i j _ => .int _) ha hb
theorem qao (ha : DE X Cl W a fa) (hb : DE X Cl W b fb) : DE X Cl W (.BinOp a .BitXor b pos) (e2 jV fa fb) := xam op_xor (kbe fun i j _ => .int _) ha hb
@[simp] def xa2 (a : Val) : Option Val := match a.d with
  | .int i => some (.s (.int (-i)))
  | _ => none
def e1 (g : Val → Option Val) (fa : FE) : FE := bE fa fun a _ => (g a).map .ok
theorem vbH (ha : DE X Cl W a fa) : DE X Cl W (.UnaryOp .USub a pos) (e1 xa2 fa) := PE.imp (pe_un un_neg ha) fun σ H Q ⟨Z, ρ, r1, I, e, q⟩ => by
  refine xab I e q fun v x H1 _ h1 s1 hv I1 q1 => ?_
  unfold xa2 at h1
  split at h1
  · rename_i i e1
    cases h1
    exact ⟨i, hv.int_inv I e1, q _ H1 s1 (.int _)⟩
  · cases h1
@[simp] def Val.items : Val → Option (List D)
  | .s (.list ds) => some ds
  | .m (.list ds) => if ds.all vj = true then some ds else none
  | .b ds => some ds
  | .f ds => some ds
  | _ => none
theorem qx.items {Z : Addr → Prop} {σ : St} {ρ : jc} {H0 H : Hp} {x : V} {a : Val} {ds : List D} (I : DI K Cl Z H0 σ ρ) (e : a.items = some ds) (h : qx K Z σ ρ H0 H x a) : ∃ p xs, x = .ref p ∧ Rd H p (.lst xs) ∧ DpAll K (hide H (Zo Z σ ρ)) xs ds := by
  cases a with
  | s d =>
    cases d with
    | list ys =>
      cases e
      obtain ⟨p, xs, rfl, h1, h2⟩ := Dp.lst_inv (show Dp K (hide H (Zo Z σ ρ)) x (.list ds) from h)
      exact ⟨p, xs, rfl, Rd.same kf h1, h2⟩
    | _ => cases e
  | m d =>
    cases d with
    | list ys =>
      simp only [Val.items] at e
      split at e
      · rename_i sc
        cases e
        obtain ⟨p, xs, rfl, h1, h2⟩ := Dp.lst_inv (show Dp K (hide H Z) x (.list ds) from h)
        exact ⟨p, xs, rfl, Rd.same kf h1, DpAll.scalar sc h2⟩
      · cases e
    | _ => cases e
  | b ys =>
    cases e
    obtain ⟨p, xs, rfl, n, h1, h2⟩ := h
    exact ⟨p, xs, rfl, Rd.of h1, h2⟩
  | f ys =>
    cases e
    obtain ⟨p, xs, rfl, n, h1, h2⟩ := h
    exact ⟨p, xs, rfl, Rd.of h1, DpAll.same (vd (zd.refl _) fun _ h => .inl (.inl h)) h2⟩
theorem Rd.lstM {pins : List (Addr × Obj)} {σ : St} {H : Hp} {s : Shared} {l : Addr} {xs : List V} (I : Inv X pins σ H s) (hH : Rd H l (.lst xs)) : xs.length ≤ sizeLine ∧ ∃ (its : List Value) (n : Nat), Vals xs its ∧ xs.length = its.length ∧ s.heap.get? l = some { cls := .type "list", data := .seq its.toArray n } := by
  obtain ⟨z, its, n, r, e⟩ := (show ObjOk X.prog X.w H s.heap l (.lst xs) from hH.ok I.hok)
  exact ⟨z, its, n, r, r.length, e⟩
def vcF : R2 := fun x y H Q => ∃ l b xs zs, x = .ref l ∧ y = .ref b ∧ Rd H l (.lst xs) ∧ Rd H b (.lst zs) ∧ xs.length + zs.length ≤ sizeLine ∧ ∀ p, H p = none → Q (.ref p) (upd H p (.lst (xs ++ zs)))
theorem wcT : OpR X (binaryOp .Add) vcF := by
  intro pins s σ H x y v u Q I rx ry h
  obtain ⟨l, b, xs, zs, rfl, rfl, hH, hB, hz, q⟩ := h
  cases rx
  cases ry
  obtain ⟨z, its, n, r, hl, e⟩ := Rd.lstM I hH
  obtain ⟨z2, its2, n2, r2, hl2, e2⟩ := Rd.lstM I hB
  refine PySem.P.add_list e e2 ?_ (by rw [List.size_toArray, List.size_toArray]; omega)
  have ea : its.toArray ++ its2.toArray = (its ++ its2).toArray := by simp
  rw [ea]
  exact ⟨.ref _, _, I.lnew (t' := s.toks) (r.append r2) (by rw [List.length_append]; omega), rfl, q _ I.fresh⟩
theorem xC {H : Hp} {p : Addr} {o : HO} (h : H p = none) : zd H (upd H p o) := fun b x e _ => by
  rw [upd_ne (ne_of_none e h)]
  exact e
theorem jv {Cl : Nat → Addr} {H : Hp} {p : Addr} {o : HO} (h : H p = none) (hn : ∀ o' xs, o ≠ .frz o' (.lst xs) := by first | (intro _ _ z; cases z) | (intro _ _ z; unfold qba at z; cases z) | (intro _ _ z; unfold SetO at z; cases z)) : Same Cl H (upd H p o) := .of (fun b x e => by
  rw [upd_ne (ne_of_none e h)]
  exact e) fun b o' xs e => by
  by_cases z : b = p
  · rw [z, upd_same] at e
    exact absurd (Option.some.inj e) (hn _ _)
  · rw [upd_ne z] at e
    exact e
theorem qx.new {Z : Addr → Prop} {σ : St} {ρ : jc} {H0 H : Hp} {p : Addr} {xs : List V} {ds : List D} (s : Same Cl H0 H) (n : H p = none) (h : DpAll K (hide H (Zo Z σ ρ)) xs ds) : qx K Z σ ρ H0 (upd H p (.lst xs)) (.ref p) (.f ds) :=
  ⟨p, xs, rfl, s.free n, upd_same, DpAll.same (vd (xC n) fun b hb => by
    rcases hb with hb | rfl
    · exact .inl hb
    · exact .inr n) h⟩
def yo (n : Nat) : Bool := decide (n ≤ 16777216)
theorem kA {n : Nat} (h : yo n = true) : n ≤ sizeLine := by
  rw [sizeLine_eq]
  exact of_decide_eq_true h
@[simp] def ybH (a b : Val) : Option Val := match a.items, b.items with
  | some xs, some ys => if yo (xs.length + ys.length) = true then some (.f (xs ++ ys)) else none
  | _, _ => none
theorem wcZ : w6 K vcF ybH := fun Cl Z σ ρ H0 H x y a b v Q I s ha hb e q => by
  unfold ybH at e
  split at e
  · rename_i ds es e1 e2
    split at e
    · rename_i hl
      cases e
      obtain ⟨l, xs, rfl, h1, h2⟩ := ha.items I e1
      obtain ⟨m, ys, rfl, h3, h4⟩ := hb.items I e2
      refine ⟨l, m, xs, ys, rfl, rfl, h1, h3, by rw [h2.length, h4.length]; exact kA hl, fun p np => ?_⟩
      exact q _ _ (jv np) (qx.new s np (h2.append h4))
    · cases e
  · cases e
@[simp] def kdQ (a b : Val) : Option Val := match a.d, b.d with
  | .str x, .str y => if yo (x.length + y.length) = true then some (.s (.str (x ++ y))) else none
  | _, _ => none
@[simp] def xb (a b : Val) : Option Val := (xcc a b).or (ybH a b)
theorem qd (ha : DE X Cl W a fa) (hb : DE X Cl W b fb) : DE X Cl W (.BinOp a .Add b pos) (e2 xb fa fb) := xam (op_add.or wcT) ((kbe fun i j _ => .int _).or wcZ) ha hb
def eqD (a b : D) : Option Bool := if (SeqAt.shaped a && SeqAt.shaped b) = true then some (PyData.eqv a b) else none
@[simp] def qu (a b : Val) : Option Val := (eqD a.d b.d).map fun k => .s (.bool k)
@[simp] def gNe (a b : Val) : Option Val := (eqD a.d b.d).map fun k => .s (.bool (!k))
theorem kL : w6 K (rEqD K) qu := fun Cl Z σ ρ H0 H x y a b v Q I s ha hb e q => by
  unfold qu eqD at e
  split at e
  · rename_i sh
    cases e
    obtain ⟨s1, s2⟩ := Bool.and_eq_true_iff.mp sh
    exact ⟨a.d, b.d, (Dp.same kf (ha.dp I)).up (SeqAt.canLay_of_shaped s1), (Dp.same kf (hb.dp I)).up (SeqAt.canLay_of_shaped s2), s1, s2, q _ H (Same.refl _) (.bl _)⟩
  · cases e
theorem jba : w6 K (rNeD K) gNe := fun Cl Z σ ρ H0 H x y a b v Q I s ha hb e q => by
  unfold gNe eqD at e
  split at e
  · rename_i sh
    cases e
    obtain ⟨s1, s2⟩ := Bool.and_eq_true_iff.mp sh
    exact ⟨a.d, b.d, (Dp.same kf (ha.dp I)).up (SeqAt.canLay_of_shaped s1), (Dp.same kf (hb.dp I)).up (SeqAt.canLay_of_shaped s2), s1, s2, q _ H (Same.refl _) (.bl _)⟩
  · cases e
@[simp] def isNone : D → Bool
  | .none => true
  | _ => false
theorem Dp.isNone {H : Hp} {x : V} {d : D} (h : Dp K H x d) : decide (x = .non) = isNone d := by
  cases h <;> rfl
@[simp] def wV (a b : Val) : Option Val := if isNone b.d = true then some (.s (.bool (isNone a.d))) else none
@[simp] def xaI (a b : Val) : Option Val := if isNone b.d = true then some (.s (.bool (!isNone a.d))) else none
theorem jbx {d : D} (h : isNone d = true) : d = .none := by cases d <;> first | rfl | cases h
theorem qaA : w6 K (fun x y H Q => y = .non ∧ Q (.bl (decide (x = .non))) H) wV := fun Cl Z σ ρ H0 H x y a b v Q I s ha hb e q => by
  unfold wV at e
  split at e
  · rename_i h
    cases e
    have q1 := hb.dp I
    rw [jbx h] at q1
    refine ⟨q1.wb8, ?_⟩
    rw [(ha.dp I).isNone]
    exact q _ H (Same.refl _) (.bl _)
  · cases e
theorem qb9 : w6 K (fun x y H Q => y = .non ∧ Q (.bl (!decide (x = .non))) H) xaI := fun Cl Z σ ρ H0 H x y a b v Q I s ha hb e q => by
  unfold xaI at e
  split at e
  · rename_i h
    cases e
    have q1 := hb.dp I
    rw [jbx h] at q1
    refine ⟨q1.wb8, ?_⟩
    rw [(ha.dp I).isNone]
    exact q _ H (Same.refl _) (.bl _)
  · cases e
theorem Dp.flat {H : Hp} {x : V} {d : D} (h : Dp K H x d) (s : vj d = true) : flatV x = true := by
  cases h <;> first | rfl | cases s
def toV : D → V
  | .bool b => .bl b
  | .int i => .int i
  | .str x => .str x
  | _ => .non
theorem Dp.toV {H : Hp} {x : V} {d : D} (h : Dp K H x d) (s : vj d = true) : x = toV d := by
  cases h <;> first | rfl | cases s
theorem DpAll.toV {H : Hp} : ∀ {xs : List V} {ds : List D}, DpAll K H xs ds → ds.all vj = true → xs = ds.map toV ∧ xs.all flatV = true
  | _, _, .nil, _ => ⟨rfl, rfl⟩
  | _, _, .cons h t, s => by
    rw [List.all_cons, Bool.and_eq_true] at s
    obtain ⟨e1, e2⟩ := DpAll.toV t s.2
    have e3 := Dp.toV h s.1
    have e4 := Dp.flat h s.1
    subst e3
    refine ⟨by rw [List.map_cons, ← e1], ?_⟩
    rw [List.all_cons, e4, e2]
    rfl
def inD (x : D) (ds : List D) : Bool := inV (toV x) (ds.map toV)
@[simp] def xbH : D → Option (List D)
  | .list ds => some ds
  | .tuple ds => some ds
  | _ => none
@[simp] def kbH (neg : Bool) (a b : Val) : Option Val := match xbH b.d with
  | some ds => if (vj a.d && ds.all vj) = true then some (.s (.bool (if neg then !inD a.d ds else inD a.d ds))) else none
  | none => none
theorem Dp.vcT {H : Hp} {x : V} {d : D} {ds : List D} (h : Dp K H x d) (e : xbH d = some ds) : ∃ p xs, x = .ref p ∧ (SqL K H p xs ∨ SqT K H p xs) ∧ DpAll K H xs ds := by
  cases h with
  | lst h t => cases e; exact ⟨_, _, rfl, .inl (.inl h), t⟩
  | tup h t => cases e; exact ⟨_, _, rfl, .inr h, t⟩
  | _ => cases e
theorem zdb {neg : Bool} : w6 K (rIn K neg) (kbH neg) := fun Cl Z σ ρ H0 H x y a b v Q I s ha hb e q => by
  unfold kbH at e
  split at e
  · rename_i ds hd
    split at e
    · rename_i sc
      cases e
      obtain ⟨s1, s2⟩ := Bool.and_eq_true_iff.mp sc
      obtain ⟨p, xs, rfl, h1, h2⟩ := (Dp.same kf (hb.dp I)).vcT hd
      have h3 := (Dp.same kf (ha.dp I))
      obtain ⟨e1, e2⟩ := h2.toV s2
      refine ⟨p, xs, rfl, h1, h3.flat s1, e2, ?_⟩
      have ex := h3.toV s1
      have ei : inV x xs = inD a.d ds := by rw [ex, e1]; rfl
      rw [ei]
      exact q _ H (Same.refl _) (.bl _)
    · cases e
  · cases e
@[simp] def gIn (a b : Val) : Option Val := kbH false a b
@[simp] def zdD (a b : Val) : Option Val := kbH true a b
@[simp] def gS (F : Str → Str → D) (a b : Val) : Option Val := match a.d, b.d with
  | .str i, .str j => some (.s (F i j))
  | _, _ => none
theorem zcA {g : Str → Str → V} {F : Str → Str → D} (h : ∀ i j H, Dp K H (g i j) (F i j)) : w6 K (fun x y H Q => ∃ i j, x = .str i ∧ y = .str j ∧ Q (g i j) H) (gS F) := fun Cl Z σ ρ H0 H x y a b v Q I s ha hb e q => by
  unfold gS at e
  split at e
  · rename_i i j e1 e2
    cases e
    exact ⟨i, j, ha.str_inv I e1, hb.str_inv I e2, q _ H (Same.refl _) (h i j _)⟩
  · cases e
end
abbrev FA := jc → Option (Except Er (List Val))
def kz (K : PySem.W.Frag) (Z : Addr → Prop) (σ : St) (ρ : jc) (H H1 : Hp) (xs : List V) (vs : List Val) : Prop := Paired (qx K Z σ ρ H H1) xs vs
def RAk (K : PySem.W.Frag) (Cl : Nat → Addr) (W : WX) (Z : Addr → Prop) (σ : St) (ρ : jc) (H : Hp) (Q : List V → Hp → Prop) : Except Er (List Val) → Prop
  | .ok vs => ∀ xs H', Same Cl H H' → kz K Z σ ρ H H' xs vs → Q xs H'
  | .error e => qS Cl W σ H e
def kcc (K : PySem.W.Frag) (Cl : Nat → Addr) (W : WX) (f : FA) : TA := fun σ H Q => ∃ Z ρ r, DI K Cl Z H σ ρ ∧ f ρ = some r ∧ RAk K Cl W Z σ ρ H Q r
def DA (X : Cx) (Cl : Nat → Addr) (W : WX) (es : List Expr) (f : FA) : Prop := PA X es (kcc X.K Cl W f)
theorem qK {K : PySem.W.Frag} {Cl : Nat → Addr} {W : WX} {Z : Addr → Prop} {H : Hp} {σ : St} {ρ : jc} {Q1 : VK} {f : FE} {r : Except Er Val} (I : DI K Cl Z H σ ρ) (h : f ρ = some r) (he : ∀ e, r = .error e → qS Cl W σ H e)
    (go : ∀ v x H1, r = .ok v → Same Cl H H1 → qx K Z σ ρ H H1 x v → DI K Cl Z H1 σ ρ → Q1 x H1) : vM K Cl W f σ H Q1 := by
  refine ⟨Z, ρ, r, I, h, ?_⟩
  cases r with
  | error e => exact he e rfl
  | ok v => exact fun x H1 s hv => go v x H1 rfl s hv (I.same s)
theorem yB {K : PySem.W.Frag} {Cl : Nat → Addr} {W : WX} {Z : Addr → Prop} {H : Hp} {σ : St} {ρ : jc} {Q1 : List V → Hp → Prop} {f : FA} {r : Except Er (List Val)} (I : DI K Cl Z H σ ρ) (h : f ρ = some r) (he : ∀ e, r = .error e → qS Cl W σ H e)
    (go : ∀ vs xs H1, r = .ok vs → Same Cl H H1 → kz K Z σ ρ H H1 xs vs → DI K Cl Z H1 σ ρ → Q1 xs H1) : kcc K Cl W f σ H Q1 := by
  refine ⟨Z, ρ, r, I, h, ?_⟩
  cases r with
  | error e => exact he e rfl
  | ok vs => exact fun x H1 s hv => go vs x H1 rfl s hv (I.same s)
section
variable {K : PySem.W.Frag} {Cl : Nat → Addr}  {Z : Addr → Prop} {σ : St} {ρ : jc} {H0 H H1 H2 : Hp}
theorem kz.same : ∀ {xs : List V} {vs : List Val}, Same Cl H1 H2 → kz K Z σ ρ H0 H1 xs vs → kz K Z σ ρ H0 H2 xs vs
  | _, _, _, .nil => .nil
  | _, _, s, .cons h t => .cons (h.same s) (kz.same s t)
theorem kz.back : ∀ {xs : List V} {vs : List Val}, Same Cl H0 H → kz K Z σ ρ H H1 xs vs → kz K Z σ ρ H0 H1 xs vs
  | _, _, _, .nil => .nil
  | _, _, s, .cons h t => .cons (h.back s) (kz.back s t)
theorem kz.dp (I : DI K Cl Z H0 σ ρ) : ∀ {xs : List V} {vs : List Val}, kz K Z σ ρ H0 H1 xs vs → DpAll K (hide H1 Z) xs (vs.map Val.d)
  | _, _, .nil => .nil
  | _, _, .cons h t => .cons (h.dp I) (kz.dp I t)
@[simp] def vw : List Val → Option (List D)
  | [] => some []
  | v :: vs => match v.st, vw vs with
    | some d, some ds => some (d :: ds)
    | _, _ => none
theorem kz.stab (I : DI K Cl Z H0 σ ρ) : ∀ {xs : List V} {vs : List Val} {ds : List D}, vw vs = some ds → kz K Z σ ρ H0 H1 xs vs → DpAll K (hide H1 (Zo Z σ ρ)) xs ds
  | _, _, _, e, .nil => by cases e; exact .nil
  | _, _, ds, e, .cons h t => by
    simp only [vw] at e
    split at e
    · rename_i d es e1 e2
      cases e
      exact .cons (h.stab I e1) (kz.stab I e2 t)
    · cases e
theorem wbx : ∀ {vs : List Val} {ds : List D}, vw vs = some ds → ds.length = vs.length
  | [], _, e => by cases e; rfl
  | v :: vs, ds, e => by
    simp only [vw] at e
    split at e
    · rename_i d es e1 e2
      cases e
      rw [List.length_cons, List.length_cons, wbx e2]
    · cases e
end
@[simp] def ya (ρ : jc) : Option (Except Er (List Val)) := some (.ok [])
@[simp] def qa (f : FE) (g : FA) (ρ : jc) : Option (Except Er (List Val)) := match f ρ with
  | none => none
  | some (.error e) => some (.error e)
  | some (.ok v) => match g ρ with
    | none => none
    | some (.error e) => some (.error e)
    | some (.ok vs) => some (.ok (v :: vs))
section
variable {X : Cx} {Cl : Nat → Addr} {W : WX} {a b c e : Expr} {es : List Expr} {fa fb fc f : FE} {g : FA} {p pos : Pos}
theorem wb : DA X Cl W [] ya := PA.imp pa_nil fun σ H Q ⟨Z, ρ, r, I, e, q⟩ => by
  cases e
  exact q [] H (Same.refl _) .nil
theorem ja (ha : DE X Cl W e f) (hr : DA X Cl W es g) (hs : starEach (e :: es) X.env = (false, eval e X.env) :: starEach es X.env := by rfl) : DA X Cl W (e :: es) (qa f g) := PA.imp (pa_cons ha hr hs) fun σ H Q ⟨Z, ρ, r, I, e, q⟩ => by
  unfold qa at e
  cases e1 : f ρ with
  | none => rw [e1] at e; cases e
  | some r1 =>
    refine qK I e1 (fun er z => ?_) fun v x H1 ev s1 hv I1 => ?_
    · rw [e1, z] at e
      cases e
      exact q
    · subst ev
      rw [e1] at e
      cases e2 : g ρ with
      | none => rw [e2] at e; cases e
      | some r2 =>
        refine yB I1 e2 (fun er z => ?_) fun vs xs H2 ev s2 hvs I2 => ?_
        · rw [e2, z] at e
          cases e
          exact qS.same s1 q
        · subst ev
          rw [e2] at e
          cases e
          exact q (x :: xs) H2 (s1.trans s2) (.cons (hv.same s2) (hvs.back s1))
@[simp] def Val.parts : Val → Option (List Val)
  | .s (.list ds) => some (ds.map .s)
  | .s (.tuple ds) => some (ds.map .s)
  | .m (.list ds) => some (ds.map .m)
  | .m (.tuple ds) => some (ds.map .m)
  | .b ds => some (ds.map .s)
  | .f ds => some (ds.map .s)
  | _ => none
theorem qa3 {K : PySem.W.Frag} {Z : Addr → Prop} {σ : St} {ρ : jc} {H0 H1 : Hp} : ∀ {xs : List V} {ds : List D}, DpAll K (hide H1 (Zo Z σ ρ)) xs ds → kz K Z σ ρ H0 H1 xs (ds.map .s)
  | _, _, .nil => .nil
  | _, _, .cons h t => .cons h (qa3 t)
theorem qbI {K : PySem.W.Frag} {Z : Addr → Prop} {σ : St} {ρ : jc} {H0 H1 : Hp} : ∀ {xs : List V} {ds : List D}, DpAll K (hide H1 Z) xs ds → kz K Z σ ρ H0 H1 xs (ds.map .m)
  | _, _, .nil => .nil
  | _, _, .cons h t => .cons h (qbI t)
theorem qx.parts {K : PySem.W.Frag} {Z : Addr → Prop} {σ : St} {ρ : jc} {H0 H : Hp} {x : V} {v : Val} {vs : List Val} (I : DI K Cl Z H0 σ ρ) (h : qx K Z σ ρ H0 H x v) (e : v.parts = some vs) :
    ∃ p xs, x = .ref p ∧ (SqT K H p xs ∨ SqL K H p xs) ∧ kz K Z σ ρ H0 H xs vs := by
  cases v with
  | s d =>
    cases d with
    | list ds =>
      cases e
      obtain ⟨p, xs, rfl, h1, h2⟩ := Dp.lst_inv (show Dp K (hide H (Zo Z σ ρ)) x (.list ds) from h)
      exact ⟨p, xs, rfl, .inr (.inl (Rd.same kf h1)), qa3 h2⟩
    | tuple ds =>
      cases e
      obtain ⟨p, xs, rfl, h1, h2⟩ := Dp.kD (show Dp K (hide H (Zo Z σ ρ)) x (.tuple ds) from h)
      exact ⟨p, xs, rfl, .inl (SqT.same kf h1), qa3 h2⟩
    | _ => cases e
  | m d =>
    cases d with
    | list ds =>
      cases e
      obtain ⟨p, xs, rfl, h1, h2⟩ := Dp.lst_inv (show Dp K (hide H Z) x (.list ds) from h)
      exact ⟨p, xs, rfl, .inr (.inl (Rd.same kf h1)), qbI h2⟩
    | tuple ds =>
      cases e
      obtain ⟨p, xs, rfl, h1, h2⟩ := Dp.kD (show Dp K (hide H Z) x (.tuple ds) from h)
      exact ⟨p, xs, rfl, .inl (SqT.same kf h1), qbI h2⟩
    | _ => cases e
  | b ds =>
    cases e
    obtain ⟨p, xs, rfl, n, h1, h2⟩ := h
    exact ⟨p, xs, rfl, .inr (SqL.of h1), qa3 h2⟩
  | f ds =>
    cases e
    obtain ⟨p, xs, rfl, n, h1, h2⟩ := h
    exact ⟨p, xs, rfl, .inr (SqL.of h1), qa3 (DpAll.same (vd (zd.refl _) fun _ h => .inl (.inl h)) h2)⟩
theorem kz.append {K : PySem.W.Frag} {Z : Addr → Prop} {σ : St} {ρ : jc} {H0 H1 : Hp} : ∀ {xs ys : List V} {vs ws : List Val}, kz K Z σ ρ H0 H1 xs vs → kz K Z σ ρ H0 H1 ys ws → kz K Z σ ρ H0 H1 (xs ++ ys) (vs ++ ws)
  | _, _, _, _, .nil, s => s
  | _, _, _, _, .cons r t, s => .cons r (kz.append t s)
@[simp] def jaw (f : FE) (g : FA) (ρ : jc) : Option (Except Er (List Val)) := match f ρ with
  | none => none
  | some (.error e) => some (.error e)
  | some (.ok v) => match v.parts with
    | none => none
    | some us => match g ρ with
      | none => none
      | some (.error e) => some (.error e)
      | some (.ok vs) => some (.ok (us ++ vs))
def CRD (K : PySem.W.Frag) (r : List V → Hp → VK → Prop) (g : List Val → Option Val) : Prop := ∀ (Cl : Nat → Addr) (Z : Addr → Prop) (σ : St) (ρ : jc) (H0 H : Hp) (xs : List V) (vs : List Val) (v : Val) (Q : VK), DI K Cl Z H0 σ ρ → Same Cl H0 H → kz K Z σ ρ H0 H xs vs → g vs = some v →
  (∀ z H', Same Cl H H' → qx K Z σ ρ H0 H' z v → Q z H') → r xs H Q
@[simp] def eG (h : List Val → Option Val) (g : FA) (ρ : jc) : Option (Except Er Val) := match g ρ with
  | none => none
  | some (.error e) => some (.error e)
  | some (.ok vs) => (h vs).map .ok
theorem xcq {r : List V → Hp → VK → Prop} {h : List Val → Option Val} (hp : PE X e (tCB r (kcc X.K Cl W g))) (hr : CRD X.K r h) : DE X Cl W e (eG h g) := PE.imp hp fun σ H Q ⟨Z, ρ, r1, I, e, q⟩ => by
  unfold eG at e
  cases e1 : g ρ with
  | none => rw [e1] at e; cases e
  | some r2 =>
    refine yB I e1 (fun er z => ?_) fun vs xs H1 ev s1 hvs I1 => ?_
    · rw [e1, z] at e
      cases e
      exact q
    · subst ev
      rw [e1] at e
      dsimp only at e
      cases e2 : h vs with
      | none => rw [e2] at e; cases e
      | some v =>
        rw [e2] at e
        cases e
        exact hr Cl Z σ ρ H H1 xs vs v Q I s1 hvs e2 fun z H' s' hz => q z H' (s1.trans s') hz
theorem vi {id : String} {x : Str} {r : List V → Hp → VK → Prop} {h : List Val → Option Val} (hc : CallR X (.builtin id) r) (hr : CRD X.K r h) (hm : X.mg x = none) (hv : bootBuiltins x = some (.builtin id)) (ha : DA X Cl W (e :: es) g) (hg : Gl X x := by rfl) (hn : x ≠ "__name__" := by decide) (hdb : (x == ("__debug__" : Str)) = false := by decide)
    (he : starEach (e :: es) X.env = (false, eval e X.env) :: starEach es X.env := by rfl) (hpl : (backTo pos (starEach es X.env)).any (·.1) = false := by rfl) : DE X Cl W (.Call (.Name x p) (e :: es) [] pos) (eG h g) :=
  xcq (pe_callB hc hg hm hv ha hn hdb he hpl) hr
theorem yG {id : String} {x : Str} {r : List V → Hp → VK → Prop} {h : List Val → Option Val} (hc : CallR X (.type id) r) (hr : CRD X.K r h) (hm : X.mg x = none) (hv : bootBuiltins x = some (.type id)) (ha : DA X Cl W (e :: es) g) (hg : Gl X x := by rfl) (hn : x ≠ "__name__" := by decide) (hdb : (x == ("__debug__" : Str)) = false := by decide)
    (he : starEach (e :: es) X.env = (false, eval e X.env) :: starEach es X.env := by rfl) (hpl : (backTo pos (starEach es X.env)).any (·.1) = false := by rfl) : DE X Cl W (.Call (.Name x p) (e :: es) [] pos) (eG h g) :=
  xcq (pe_callTy hc hg hm hv ha hn hdb he hpl) hr
theorem kz.one {K : PySem.W.Frag} {Z : Addr → Prop} {σ : St} {ρ : jc} {H0 H1 : Hp} {xs : List V} {v : Val} (h : kz K Z σ ρ H0 H1 xs [v]) : ∃ x, xs = [x] ∧ qx K Z σ ρ H0 H1 x v := by
  cases h with
  | cons h t => cases t; exact ⟨_, rfl, h⟩
theorem kz.two {K : PySem.W.Frag} {Z : Addr → Prop} {σ : St} {ρ : jc} {H0 H1 : Hp} {xs : List V} {v u : Val} (h : kz K Z σ ρ H0 H1 xs [v, u]) : ∃ x y, xs = [x, y] ∧ qx K Z σ ρ H0 H1 x v ∧ qx K Z σ ρ H0 H1 y u := by
  cases h with
  | cons h t =>
    cases t with
    | cons h2 t2 => cases t2; exact ⟨_, _, rfl, h, h2⟩
variable {K : PySem.W.Frag} {Cl : Nat → Addr}
@[simp] def zbI : D → Option Nat
  | .str x => if yo x.length = true then some x.length else none
  | .list ds => some ds.length
  | .tuple ds => some ds.length
  | .dict ks => if kbn ks = true then none else some ks.length
  | _ => none
@[simp] def xg : List Val → Option Val
  | [v] => (zbI v.d).map fun n => .s (.int n)
  | _ => none
theorem Dp.jdh {H : Hp} {x : V} {d : D} {n : Nat} (h : Dp K H x d) (e : zbI d = some n) : LenV K x H n := by
  cases h with
  | str x =>
    simp only [zbI] at e
    split at e
    · rename_i hl
      cases e
      exact ⟨kA hl, rfl⟩
    · cases e
  | lst h t => cases e; exact .inl ⟨_, .inl h, t.length.symm⟩
  | tup h t => cases e; exact .inr ⟨_, h, t.length.symm⟩
  | @qW a ns h =>
    simp only [zbI] at e
    rw [vbG, if_neg Bool.false_ne_true] at e
    cases e
    exact .inl ⟨_, h, by rw [List.length_map, List.length_map]⟩
  | exc _ _ => cases e
  | _ => cases e
theorem yp : CRD K (fun xs H Q => ∃ x n, xs = [x] ∧ LenV K x H n ∧ Q (.int n) H) xg := fun Cl Z σ ρ H0 H xs vs v Q I s hv e q => by
  unfold xg at e
  split at e
  · rename_i u
    obtain ⟨x, rfl, h⟩ := hv.one
    cases e1 : zbI u.d with
    | none => rw [e1] at e; cases e
    | some n =>
      rw [e1] at e
      cases e
      exact ⟨x, n, rfl, (Dp.same kf (h.dp I)).jdh e1, q _ H (Same.refl _) (.int _)⟩
  · cases e
@[simp] def kN : List Val → Option Val
  | [v] => match v.d with
    | .int i => some (.s (.int i))
    | .bool b => some (.s (.int (if b then 1 else 0)))
    | _ => none
  | _ => none
theorem zao : CRD K (fun xs H Q => (∃ i, xs = [.int i] ∧ Q (.int i) H) ∨ ∃ k, xs = [.bl k] ∧ Q (.int (if k then 1 else 0)) H) kN := fun Cl Z σ ρ H0 H xs vs v Q I s hv e q => by
  unfold kN at e
  split at e
  · rename_i u
    obtain ⟨x, rfl, h⟩ := hv.one
    split at e
    · rename_i i e1
      cases e
      exact .inl ⟨i, by rw [h.int_inv I e1], q _ H (Same.refl _) (.int _)⟩
    · rename_i i e1
      cases e
      exact .inr ⟨i, by rw [h.xa1 I e1], q _ H (Same.refl _) (.int _)⟩
    · cases e
  · cases e
@[simp] def qcd : List Val → Option Val
  | [v] => match v.d with
    | .int i => some (.s (.int (if i < 0 then -i else i)))
    | _ => none
  | _ => none
theorem qc0 : CRD K (fun xs H Q => ∃ i, xs = [.int i] ∧ Q (.int (if i < 0 then -i else i)) H) qcd := fun Cl Z σ ρ H0 H xs vs v Q I s hv e q => by
  unfold qcd at e
  split at e
  · rename_i u
    obtain ⟨x, rfl, h⟩ := hv.one
    split at e
    · rename_i i e1
      cases e
      exact ⟨i, by rw [h.int_inv I e1], q _ H (Same.refl _) (.int _)⟩
    · cases e
  · cases e
@[simp] def zcd : List Val → Option Val
  | [v, u] => match v.d, u.d with
    | .int i, .int j => some (.s (.int (if j < i then j else i)))
    | _, _ => none
  | _ => none
theorem ycT : CRD K (fun xs H Q => ∃ i j, xs = [.int i, .int j] ∧ Q (.int (if j < i then j else i)) H) zcd := fun Cl Z σ ρ H0 H xs vs v Q I s hv e q => by
  unfold zcd at e
  split at e
  · rename_i u w
    obtain ⟨x, y, rfl, h, h2⟩ := hv.two
    split at e
    · rename_i i j e1 e2
      cases e
      exact ⟨i, j, by rw [h.int_inv I e1, h2.int_inv I e2], q _ H (Same.refl _) (.int _)⟩
    · cases e
  · cases e
@[simp] def wdh : List Val → Option Val
  | [v, u] => match v.d, u.d with
    | .int i, .int j => some (.s (.int (if j > i then j else i)))
    | _, _ => none
  | _ => none
@[simp] def Val.seq : Val → Option (List D)
  | .s (.tuple ds) => some ds
  | .m (.tuple ds) => if ds.all vj = true then some ds else none
  | v => v.items
theorem qx.seq {Z : Addr → Prop} {σ : St} {ρ : jc} {H0 H : Hp} {x : V} {a : Val} {ds : List D} (I : DI K Cl Z H0 σ ρ) (e : a.seq = some ds) (h : qx K Z σ ρ H0 H x a) : ∃ p xs, x = .ref p ∧ (SqL K H p xs ∨ SqT K H p xs) ∧ DpAll K (hide H (Zo Z σ ρ)) xs ds := by
  have go : a.items = some ds → ∃ p xs, x = .ref p ∧ (SqL K H p xs ∨ SqT K H p xs) ∧ DpAll K (hide H (Zo Z σ ρ)) xs ds := fun e => by
    obtain ⟨p, xs, e1, e2, e3⟩ := h.items I e
    exact ⟨p, xs, e1, .inl (.inl e2), e3⟩
  unfold Val.seq at e
  split at e
  · rename_i ys
    cases e
    obtain ⟨p, xs, rfl, h1, h2⟩ := Dp.kD (show Dp K (hide H (Zo Z σ ρ)) x (.tuple ds) from h)
    exact ⟨p, xs, rfl, .inr (SqT.same kf h1), h2⟩
  · rename_i ys
    split at e
    · rename_i sc
      cases e
      obtain ⟨p, xs, rfl, h1, h2⟩ := Dp.kD (show Dp K (hide H Z) x (.tuple ds) from h)
      exact ⟨p, xs, rfl, .inr (SqT.same kf h1), DpAll.scalar sc h2⟩
    · cases e
  · exact go e
@[simp] def xbF : List Val → Option Val
  | [v] => v.seq.map .f
  | _ => none
theorem xcT : CRD K (fun xs H Q => ∃ p ys, xs = [.ref p] ∧ (SqL K H p ys ∨ SqT K H p ys) ∧ ∀ l, H l = none → Q (.ref l) (upd H l (.lst ys))) xbF := fun Cl Z σ ρ H0 H xs vs v Q I s hv e q => by
  unfold xbF at e
  split at e
  · rename_i u
    obtain ⟨x, rfl, h⟩ := hv.one
    cases e1 : u.seq with
    | none => rw [e1] at e; cases e
    | some ds =>
      rw [e1] at e
      cases e
      obtain ⟨p, ys, rfl, h1, h2⟩ := h.seq I e1
      exact ⟨p, ys, rfl, h1, fun l nl => q _ _ (jv nl) (qx.new s nl h2)⟩
  · cases e
def vad : List D → Option (List Int)
  | [] => some []
  | .int i :: r => (vad r).map (i :: ·)
  | _ => none
theorem jbI : ∀ {ds : List D} {ns : List Int}, vad ds = some ns → ds = ns.map PyData.int
  | [], _, e => by cases e; rfl
  | .int i :: r, ns, e => by
    have e' : (vad r).map (i :: ·) = some ns := e
    cases h : vad r with
    | none => rw [h] at e'; cases e'
    | some ms =>
      rw [h] at e'
      cases e'
      rw [jbI h]
      rfl
@[simp] def qbf : List Val → Option Val
  | [v] => match v.d with
    | .list ds => (vad ds).map fun ns => .s (.int ns.sum)
    | _ => none
  | _ => none
theorem jb9 : CRD K (rSum K) qbf := fun Cl Z σ ρ H0 H xs vs v Q I s hv e q => by
  unfold qbf at e
  split at e
  · rename_i u
    obtain ⟨x, rfl, h⟩ := hv.one
    split at e
    · rename_i ds e1
      cases e2 : vad ds with
      | none => rw [e2] at e; cases e
      | some ns =>
        rw [e2] at e
        cases e
        have h1 := Dp.same kf (h.dp I)
        rw [e1] at h1
        obtain ⟨p, ys, rfl, h2, h3⟩ := h1.lst_inv
        rw [jbI e2] at h3
        have e3 := h3.ints
        subst e3
        exact ⟨p, ns, rfl, .inl h2, q _ H (Same.refl _) (.int _)⟩
    · cases e
  · cases e
@[simp] def tyN : D → String
  | .none => "NoneType" | .bool _ => "bool" | .int _ => "int" | .str _ => "str" | .list _ => "list" | .tuple _ => "tuple" | .dict _ => "list"
@[simp] def jcA (T : String) (d : D) : Bool := T == tyN d || (T == "int" && tyN d == "bool")
@[simp] def zbf (T : String) (v : Val) : Option Val := if zcz v.d = true then none else some (.s (.bool (jcA T v.d)))
theorem kcT {T : String} {d : D} (h : T = "bool" ∨ T = "int" ∨ T = "str" ∨ T = "list" ∨ T = "tuple") : PySem.W.kitOne K (.type (tyN d)) (.type T) = some (jcA T d) := by
  refine kit_ty ?_
  rcases h with rfl | rfl | rfl | rfl | rfl <;> cases d <;> first | decide +kernel | rfl
theorem Dp.tyx {H : Hp} {x : V} {d : D} (n : ¬ zcz d = true) (h : Dp K H x d) : TyX K H x (.type (tyN d)) := by
  cases h with
  | non => exact .base .non
  | bl b => exact .base (.bl b)
  | int i => exact .base (.int i)
  | str x => exact .base (.str x)
  | lst h t =>
    rcases h with h | ⟨o, h⟩
    · exact .base (.lst h)
    · exact .base (.frz h)
  | tup h t =>
    rcases h with (h | ⟨o, h⟩) | ⟨o, its, n, h, c, _⟩
    · exact .base (.tup h)
    · exact .fTuple h
    · exact .kTuple h c
  | qW h =>
    rcases h with (h | ⟨o, h⟩) | ⟨o, its, n, h, c, _⟩
    · exact .base (.lst h)
    · exact .base (.frz h)
    · exact .kList h c
  | exc _ _ => exact absurd rfl n
theorem wbI {T : String} {y : Str} {q : Pos} {x : Str} (hx : x = "isinstance") (hm : X.mg x = none) (hy : X.mg y = none) (hT : bootBuiltins y = some (.type T)) (hk : T = "bool" ∨ T = "int" ∨ T = "str" ∨ T = "list" ∨ T = "tuple") (ha : DE X Cl W e f) (hg : Gl X x := by rfl) (hgy : Gl X y := by rfl) (hn : y ≠ "__name__" := by decide) (hdb : (y == ("__debug__" : Str)) = false := by decide)
    (hs : starEach [e, .Name y q] X.env = (false, eval e X.env) :: starEach [.Name y q] X.env := by rfl) (hs2 : starEach [.Name y q] X.env = (false, eval (.Name y q) X.env) :: starEach [] X.env := by rfl) (hpl : (backTo pos (starEach [.Name y q] X.env)).any (·.1) = false := by rfl) :
    DE X Cl W (.Call (.Name x p) [e, .Name y q] [] pos) (e1 (zbf T) f) := by
  subst hx
  refine PE.imp (pe_callB call_isi hg hm PyProof.Rows.boot_isinstance (pa_cons ha (pa_cons (pe_bltn (v := .ty T) hgy hy hT rfl hn hdb) pa_nil hs2) hs) (by decide) (by decide) hs hpl) fun σ H Q ⟨Z, ρ, r1, I, e, q⟩ => ?_
  refine xab I e q fun v x H1 _ h1 s1 hv I1 q1 => ?_
  unfold zbf at h1
  split at h1
  · cases h1
  rename_i n
  cases h1
  exact ⟨x, .ty T, _, _, _, rfl, .ty T, (Dp.same kf (hv.dp I)).tyx n, kcT hk, q _ H1 s1 (.bl _)⟩
@[simp] def jg (g : FA) (ρ : jc) : Option (Except Er Val) := match g ρ with
  | none => none
  | some (.error e) => some (.error e)
  | some (.ok vs) => if yo vs.length = true then match vw vs with
    | some ds => some (.ok (.f ds))
    | none => some (.ok (.m (.list (vs.map Val.d)))) else none
@[simp] def yF (g : FA) (ρ : jc) : Option (Except Er Val) := match g ρ with
  | none => none
  | some (.error e) => some (.error e)
  | some (.ok vs) => if yo vs.length = true then match vw vs with
    | some ds => some (.ok (.s (.tuple ds)))
    | none => some (.ok (.m (.tuple (vs.map Val.d)))) else none
theorem Paired.len {α β : Type} {F : α → β → Prop} {l₁ : List α} {l₂ : List β} (h : Paired F l₁ l₂) : l₁.length = l₂.length := Paired.length h
theorem zm (h : DA X Cl W es g) : DE X Cl W (.List es pos) (jg g) := PE.imp (pe_lst h) fun σ H Q ⟨Z, ρ, r1, I, e, q⟩ => by
  unfold jg at e
  cases e1 : g ρ with
  | none => rw [e1] at e; cases e
  | some r2 =>
    refine yB I e1 (fun er z => ?_) fun vs xs H1 ev s1 hvs I1 => ?_
    · rw [e1, z] at e
      cases e
      exact q
    · subst ev
      rw [e1] at e
      dsimp only at e
      split at e
      · rename_i hl
        refine ⟨by rw [Paired.len hvs]; exact kA hl, fun p np => ?_⟩
        cases e2 : vw vs with
        | some ds =>
          rw [e2] at e
          cases e
          exact q _ _ (s1.trans (jv np)) (qx.new s1 np (hvs.stab I e2))
        | none =>
          rw [e2] at e
          cases e
          have nz : ¬ Z p := fun z => I1.live p z np
          refine q _ _ (s1.trans (jv np)) ?_
          exact .lst (Rd.of (ze nz upd_same)) (DpAll.same (vd (xC np) fun _ h => .inl h) (hvs.dp I))
      · cases e
theorem qO {x1} (h : DA X Cl W es g) : DE X Cl W (.Tuple es x1 pos) (yF g) := PE.imp (pe_tup h) fun σ H Q ⟨Z, ρ, r1, I, e, q⟩ => by
  unfold yF at e
  cases e1 : g ρ with
  | none => rw [e1] at e; cases e
  | some r2 =>
    refine yB I e1 (fun er z => ?_) fun vs xs H1 ev s1 hvs I1 => ?_
    · rw [e1, z] at e
      cases e
      exact q
    · subst ev
      rw [e1] at e
      dsimp only at e
      split at e
      · rename_i hl
        refine ⟨by rw [Paired.len hvs]; exact kA hl, fun p np => ?_⟩
        cases e2 : vw vs with
        | some ds =>
          rw [e2] at e
          cases e
          have nz : ¬ Zo Z σ ρ p := fun z => I1.jZ z np
          refine q _ _ (s1.trans (jv np)) ?_
          exact .tup (SqT.of (ze nz upd_same)) (DpAll.same (vd (xC np) fun _ h => .inl h) (hvs.stab I e2))
        | none =>
          rw [e2] at e
          cases e
          have nz : ¬ Z p := fun z => I1.live p z np
          refine q _ _ (s1.trans (jv np)) ?_
          exact .tup (SqT.of (ze nz upd_same)) (DpAll.same (vd (xC np) fun _ h => .inl h) (hvs.dp I))
      · cases e
theorem Dp.qcU {H : Hp} {x : V} {ks : List (D × D)} (n : ¬ kbn ks = true) (h : Dp K H x (.dict ks)) : ∃ (a : Addr) (ns : List Int), x = .ref a ∧ ks = (ns.map fun n => (.int n, .none)) ∧ SqL K H a (ns.map V.int) := by
  cases h with
  | qW h => exact ⟨_, _, rfl, rfl, h⟩
  | exc _ _ => exact absurd rfl n
theorem SqL.zu {H H' : Hp} {a : Addr} {xs : List V} (s : zd H H') (h : SqL K H a xs) : SqL K H' a xs := s.seq h
def strAt (x : Str) (i : Int) : Option D := (atI x.cps.toList i).map fun c => .str ⟨#[c]⟩
@[simp] def yg (a b : Val) : Option Val := match b.d with
  | .int i => match a with
    | .s (.list ds) => (atI ds i).map .s
    | .s (.tuple ds) => (atI ds i).map .s
    | .s (.str x) => if yo x.length = true then (strAt x i).map .s else none
    | .s (.dict ks) => if kbn ks = true then none else (atI ks i).map fun p => .s p.1
    | .m (.list ds) => (atI ds i).map .m
    | .m (.tuple ds) => (atI ds i).map .m
    | .b ds => (atI ds i).map .s
    | .f ds => (atI ds i).map .s
    | _ => none
  | _ => none
theorem vaT {H : Hp} {xs : List V} {ds : List D} {i : Int} {d : D} (h : DpAll K H xs ds) (e : atI ds i = some d) : ∃ v, atI xs i = some v ∧ Dp K H v d := by
  unfold atI at e ⊢
  rw [h.length]
  cases e1 : ixN ds.length i with
  | none => rw [e1] at e; cases e
  | some j =>
    rw [e1] at e
    obtain ⟨v, h1, h2⟩ := h.get (show ds[j]? = some d from e)
    exact ⟨v, h1, h2⟩
theorem wdb : w6 K (rIx K) yg := fun Cl Z σ ρ H0 H x y a b v Q I s ha hb e q => by
  unfold yg at e
  split at e
  · rename_i i e1
    have ey := hb.int_inv I e1
    subst ey
    have L : ∀ {Hh : Hp} {ds : List D} {d : D}, zd Hh H → Dp K Hh x (.list ds) → atI ds i = some d → (∀ z, Dp K Hh z d → Q z H) → rIx K x (.int i) H Q := fun {Hh ds d} sh h e q => by
      obtain ⟨p, xs, rfl, h1, h2⟩ := h.lst_inv
      obtain ⟨z, e2, hz⟩ := vaT h2 e
      exact .inl ⟨p, xs, i, z, rfl, rfl, .inl (Rd.same sh h1), e2, q z hz⟩
    have T : ∀ {Hh : Hp} {ds : List D} {d : D}, zd Hh H → Dp K Hh x (.tuple ds) → atI ds i = some d → (∀ z, Dp K Hh z d → Q z H) → rIx K x (.int i) H Q := fun {Hh ds d} sh h e q => by
      obtain ⟨p, xs, rfl, h1, h2⟩ := h.kD
      obtain ⟨z, e2, hz⟩ := vaT h2 e
      exact .inr (.inl ⟨p, xs, i, z, rfl, rfl, SqT.same sh h1, e2, q z hz⟩)
    split at e
    · rename_i ds
      cases e2 : atI ds i with
      | none => rw [e2] at e; cases e
      | some d => rw [e2] at e; cases e; exact L kf (show Dp K (hide H (Zo Z σ ρ)) x (.list ds) from ha) e2 fun z hz => q z H (Same.refl _) hz
    · rename_i ds
      cases e2 : atI ds i with
      | none => rw [e2] at e; cases e
      | some d => rw [e2] at e; cases e; exact T kf (show Dp K (hide H (Zo Z σ ρ)) x (.tuple ds) from ha) e2 fun z hz => q z H (Same.refl _) hz
    · rename_i t
      split at e
      · rename_i hl
        unfold strAt at e
        cases e2 : atI t.cps.toList i with
        | none => rw [e2] at e; cases e
        | some c =>
          rw [e2] at e
          cases e
          exact .inr (.inr ⟨t, i, c, (show Dp K (hide H (Zo Z σ ρ)) x (.str t) from ha).str_inv, rfl, kA hl, e2, q _ H (Same.refl _) (.str _)⟩)
      · cases e
    · rename_i ks
      split at e
      · cases e
      rename_i nx
      cases e2 : atI ks i with
      | none => rw [e2] at e; cases e
      | some p =>
        rw [e2] at e
        cases e
        obtain ⟨a, ns, rfl, rfl, h1⟩ := (show Dp K (hide H (Zo Z σ ρ)) x (.dict ks) from ha).qcU nx
        have e3 : atI (ns.map V.int) i = some (toV p.1) ∧ ∃ n, p.1 = .int n := by
          unfold atI at e2 ⊢
          rw [List.length_map] at e2 ⊢
          cases e4 : ixN ns.length i with
          | none => rw [e4] at e2; cases e2
          | some j =>
            rw [e4] at e2
            have e5 : (ns.map fun n => ((PyData.int n, PyData.none) : D × D))[j]? = some p := e2
            show (ns.map V.int)[j]? = _ ∧ _
            rw [List.getElem?_map] at e5 ⊢
            cases e6 : ns[j]? with
            | none => rw [e6] at e5; cases e5
            | some n =>
              rw [e6] at e5
              cases e5
              exact ⟨rfl, n, rfl⟩
        obtain ⟨e4, n, en⟩ := e3
        refine .inl ⟨a, _, i, _, rfl, rfl, SqL.zu kf h1, e4, q _ H (Same.refl _) ?_⟩
        show Dp K _ (toV p.1) p.1
        rw [en]
        exact .int n
    · rename_i ds
      cases e2 : atI ds i with
      | none => rw [e2] at e; cases e
      | some d => rw [e2] at e; cases e; exact L kf (show Dp K (hide H Z) x (.list ds) from ha) e2 fun z hz => q z H (Same.refl _) hz
    · rename_i ds
      cases e2 : atI ds i with
      | none => rw [e2] at e; cases e
      | some d => rw [e2] at e; cases e; exact T kf (show Dp K (hide H Z) x (.tuple ds) from ha) e2 fun z hz => q z H (Same.refl _) hz
    · rename_i ds
      cases e2 : atI ds i with
      | none => rw [e2] at e; cases e
      | some d =>
        rw [e2] at e
        cases e
        obtain ⟨p, xs, rfl, n, h1, h2⟩ := ha
        obtain ⟨z, e3, hz⟩ := vaT h2 e2
        exact .inl ⟨p, xs, i, z, rfl, rfl, SqL.of h1, e3, q z H (Same.refl _) hz⟩
    · rename_i ds
      cases e2 : atI ds i with
      | none => rw [e2] at e; cases e
      | some d =>
        rw [e2] at e
        cases e
        obtain ⟨p, xs, rfl, n, h1, h2⟩ := ha
        obtain ⟨z, e3, hz⟩ := vaT h2 e2
        exact .inl ⟨p, xs, i, z, rfl, rfl, SqL.of h1, e3, q z H (Same.refl _) (Dp.same (vd (zd.refl _) fun _ h => .inl (.inl h)) hz)⟩
    · cases e
  · cases e
theorem zk (ha : DE X Cl W a fa) (hb : DE X Cl W b fb) (hs : PlainIx b := by exact fun _ _ => rfl) : DE X Cl W (.Subscript a b pos) (e2 yg fa fb) := wbH (pe_ix ix_seq ha hb hs) wdb
abbrev FO := jc → Option (Except Er (Option Int))
def vdh (K : PySem.W.Frag) (Cl : Nat → Addr) (W : WX) (f : FO) : TO := fun σ H Q => ∃ Z ρ r, DI K Cl Z H σ ρ ∧ f ρ = some r ∧ match r with
  | .ok o => ∀ H', Same Cl H H' → Q o H'
  | .error e => qS Cl W σ H e
@[simp] def jj (ρ : jc) : Option (Except Er (Option Int)) := some (.ok none)
@[simp] def ve (f : FE) (ρ : jc) : Option (Except Er (Option Int)) := match f ρ with
  | none => none
  | some (.error e) => some (.error e)
  | some (.ok v) => match v.d with
    | .int i => some (.ok (some i))
    | _ => none
def DO (X : Cx) (Cl : Nat → Addr) (W : WX) (e : Option Expr) (f : FO) : Prop := PO X e (vdh X.K Cl W f)
theorem PO.imp {e : Option Expr} {t t' : TO} (h : PO X e t) (i : ∀ σ H Q, t' σ H Q → t σ H Q) : PO X e t' := ⟨fun pins s σ H Q I q => h.run pins s σ H Q I (i σ H Q q)⟩
theorem zK : DO X Cl W none jj := PO.imp po_none fun σ H Q ⟨Z, ρ, r, I, e, q⟩ => by cases e; exact q H (Same.refl _)
theorem xj (h : DE X Cl W e f) : DO X Cl W (some e) (ve f) := PO.imp (po_some h) fun σ H Q ⟨Z, ρ, r, I, e, q⟩ => by
  unfold ve at e
  cases e1 : f ρ with
  | none => rw [e1] at e; cases e
  | some r1 =>
    refine qK I e1 (fun er z => ?_) fun v x H1 ev s1 hv I1 => ?_
    · rw [e1, z] at e
      cases e
      exact q
    · subst ev
      rw [e1] at e
      dsimp only at e
      split at e
      · rename_i i e2
        cases e
        exact ⟨i, hv.int_inv I e2, q H1 s1⟩
      · cases e
def vV {α : Type} (xs : List α) (lo hi : Option Int) : List α := (xs.drop (HT.sIx xs.length 0 lo)).take (HT.sIx xs.length xs.length hi - HT.sIx xs.length 0 lo)
theorem vbo {H : Hp} {xs : List V} {ds : List D} {lo hi : Option Int} (h : DpAll K H xs ds) : DpAll K H (cutV xs lo hi) (vV ds lo hi) := by
  unfold cutV vV
  rw [h.length]
  exact (h.drop _).take _
def whole (n : Nat) (lo hi : Option Int) : Bool := decide (HT.sIx n 0 lo = 0 ∧ HT.sIx n n hi = n)
@[simp] def gSl (v : Val) (lo hi : Option Int) : Option Val := match v with
  | .s (.tuple ds) => if whole ds.length lo hi = true then none else some (.s (.tuple (vV ds lo hi)))
  | .m (.tuple ds) => if whole ds.length lo hi = true then none else some (.m (.tuple (vV ds lo hi)))
  | v => match v.items with
    | some ds => some (.f (vV ds lo hi))
    | none => none
@[simp] def jm (f : FE) (l h : FO) (ρ : jc) : Option (Except Er Val) := match f ρ with
  | none => none
  | some (.error e) => some (.error e)
  | some (.ok v) => match l ρ with
    | none => none
    | some (.error e) => some (.error e)
    | some (.ok lo) => match h ρ with
      | none => none
      | some (.error e) => some (.error e)
      | some (.ok hi) => (gSl v lo hi).map .ok
theorem vC {lo hi : Option Expr} {l h : FO} {p2 : Pos} (he : DE X Cl W e f) (hl : DO X Cl W lo l) (hh : DO X Cl W hi h) : DE X Cl W (.Subscript e (.Slice lo hi none p2) pos) (jm f l h) := PE.imp (pe_slice (sl_list.or sl_tup) he hl hh) fun σ H Q ⟨Z, ρ, r, I, e, q⟩ => by
  unfold jm at e
  cases e1 : f ρ with
  | none => rw [e1] at e; cases e
  | some r1 =>
    refine qK I e1 (fun er z => ?_) fun v x H1 ev s1 hv I1 => ?_
    · rw [e1, z] at e
      cases e
      exact q
    · subst ev
      rw [e1] at e
      dsimp only at e
      cases e2 : l ρ with
      | none => rw [e2] at e; cases e
      | some r2 =>
        refine ⟨Z, ρ, r2, I1, e2, ?_⟩
        cases r2 with
        | error er =>
          rw [e2] at e
          cases e
          exact qS.same s1 q
        | ok o1 =>
          rw [e2] at e
          dsimp only at e
          intro H2 s2
          have I2 := I1.same s2
          cases e3 : h ρ with
          | none => rw [e3] at e; cases e
          | some r3 =>
            refine ⟨Z, ρ, r3, I2, e3, ?_⟩
            cases r3 with
            | error er =>
              rw [e3] at e
              cases e
              exact qS.same (s1.trans s2) q
            | ok o2 =>
              rw [e3] at e
              dsimp only at e
              intro H3 s3
              have hv3 := hv.same (s2.trans s3)
              have I3 := I2.same s3
              have s13 := s1.trans (s2.trans s3)
              cases e4 : gSl v o1 o2 with
              | none => rw [e4] at e; cases e
              | some w =>
                rw [e4] at e
                cases e
                unfold gSl at e4
                split at e4
                · rename_i ds
                  split at e4
                  · cases e4
                  · rename_i hw
                    cases e4
                    obtain ⟨p, xs, rfl, h1, h2⟩ := Dp.kD (show Dp X.K (hide H3 (Zo Z σ ρ)) x (.tuple ds) from hv3)
                    refine .inr ⟨p, xs, rfl, SqT.same kf h1, fun z => hw (decide_eq_true (by rw [h2.length] at z; exact z)), fun a na => ?_⟩
                    have nz : ¬ Zo Z σ ρ a := fun z => I3.jZ z na
                    refine q _ _ (s13.trans (jv na)) ?_
                    exact .tup (SqT.of (ze nz upd_same)) (DpAll.same (vd (xC na) fun _ h => .inl h) (vbo h2))
                · rename_i ds
                  split at e4
                  · cases e4
                  · rename_i hw
                    cases e4
                    obtain ⟨p, xs, rfl, h1, h2⟩ := Dp.kD (show Dp X.K (hide H3 Z) x (.tuple ds) from hv3)
                    refine .inr ⟨p, xs, rfl, SqT.same kf h1, fun z => hw (decide_eq_true (by rw [h2.length] at z; exact z)), fun a na => ?_⟩
                    have nz : ¬ Z a := fun z => I3.live a z na
                    refine q _ _ (s13.trans (jv na)) ?_
                    exact .tup (SqT.of (ze nz upd_same)) (DpAll.same (vd (xC na) fun _ h => .inl h) (vbo h2))
                · split at e4
                  · rename_i ds e5
                    cases e4
                    obtain ⟨p, xs, rfl, h1, h2⟩ := hv3.items I e5
                    refine .inl ⟨p, xs, rfl, .inl h1, fun a na => ?_⟩
                    exact q _ _ (s13.trans (jv na)) (qx.new s13 na (vbo h2))
                  · cases e4
abbrev FT := jc → Option (Except Er Bool)
def RTk (Cl : Nat → Addr) (W : WX) (σ : St) (H : Hp) (Q : Bool → Hp → Prop) : Except Er Bool → Prop
  | .ok b => ∀ H', Same Cl H H' → Q b H'
  | .error e => qS Cl W σ H e
def za3 (K : PySem.W.Frag) (Cl : Nat → Addr) (W : WX) (f : FT) : TT := fun σ H Q => ∃ Z ρ r, DI K Cl Z H σ ρ ∧ f ρ = some r ∧ RTk Cl W σ H Q r
def DT (X : Cx) (Cl : Nat → Addr) (W : WX) (e : Expr) (f : FT) : Prop := PT X e (za3 X.K Cl W f)
def DW (X : Cx) (Cl : Nat → Addr) (W : WX) (e : Expr) (f : FT) : Prop := PW X e (za3 X.K Cl W f)
@[simp] def tV (f : FE) (ρ : jc) : Option (Except Er Bool) := match f ρ with
  | none => none
  | some (.error e) => some (.error e)
  | some (.ok v) => match v.d with
    | .bool b => some (.ok b)
    | _ => none
theorem xcF {Z : Addr → Prop} {H : Hp} {σ : St} {ρ : jc} {Q : Bool → Hp → Prop} {r : Except Er Bool} (I : DI K Cl Z H σ ρ) (e : tV f ρ = some r) (q : RTk Cl W σ H Q r) :
    vM K Cl W f σ H fun x H1 => ∃ k, x = .bl k ∧ Q k H1 := by
  unfold tV at e
  cases e1 : f ρ with
  | none => rw [e1] at e; cases e
  | some r1 =>
    refine qK I e1 (fun er z => ?_) fun v x H1 ev s1 hv I1 => ?_
    · rw [e1, z] at e
      cases e
      exact q
    · subst ev
      rw [e1] at e
      dsimp only at e
      split at e
      · rename_i i e2
        cases e
        exact ⟨i, hv.xa1 I e2, q H1 s1⟩
      · cases e
theorem vbI (h : DE X Cl W e f) (he : ∀ whole, isTrue e X.env whole = (do let v ← whole; standAt e.pos; holding [v] (truthy v)) := by intro _; rfl) : DT X Cl W e (tV f) := PT.imp (pt_val h he) fun σ H Q ⟨Z, ρ, r, I, e, q⟩ => xcF I e q
theorem zf {op : CmpOp} {r : R2} {g : Val → Val → Option Val} (ho : OpR X (compareOp op) r) (hr : w6 X.K r g) (ha : DE X Cl W a fa) (hb : DE X Cl W b fb) (hm : behindInMarks op b = false) : DT X Cl W (.Compare a [op] [b] pos) (tV (e2 g fa fb)) := PT.imp (pt_cmpR ho ha hb hm) fun σ H Q ⟨Z, ρ, r1, I, e, q⟩ => by
  have h := xcF (W := W) (Cl := Cl) I e q
  obtain ⟨Z', ρ', r', I', e', q'⟩ := h
  refine xab I' e' q' fun v x H1 _ h1 s1 hv I1 q1 => xab I1 h1 q1 fun u y H2 _ h2 s2 hu I2 q2 => ?_
  cases hg : g v u with
  | none => rw [hg] at h2; cases h2
  | some w =>
    rw [hg] at h2
    cases h2
    exact hr Cl Z' σ ρ' H H2 x y v u w _ I' (s1.trans s2) (hv.same s2) (hu.back s1) hg fun z H' s' hz => q' z H' (s1.trans (s2.trans s')) hz
@[simp] def waw (f g : FT) (ρ : jc) : Option (Except Er Bool) := match f ρ with
  | some (.ok true) => g ρ
  | r => r
@[simp] def zB (f g : FT) (ρ : jc) : Option (Except Er Bool) := match f ρ with
  | some (.ok false) => g ρ
  | r => r
@[simp] def vaw (f : FT) (ρ : jc) : Option (Except Er Bool) := match f ρ with
  | some (.ok b) => some (.ok (!b))
  | r => r
theorem wZ {Z : Addr → Prop} {H : Hp} {σ : St} {ρ : jc} {Q1 : Bool → Hp → Prop} {f : FT} {r : Except Er Bool} (I : DI K Cl Z H σ ρ) (h : f ρ = some r) (he : ∀ e, r = .error e → qS Cl W σ H e)
    (go : ∀ b H1, r = .ok b → Same Cl H H1 → DI K Cl Z H1 σ ρ → Q1 b H1) : za3 K Cl W f σ H Q1 := by
  refine ⟨Z, ρ, r, I, h, ?_⟩
  cases r with
  | error e => exact he e rfl
  | ok b => exact fun H1 s => go b H1 rfl s (I.same s)
variable {ta tb : FT} {rest : List Expr}
theorem wb9 (ha : DT X Cl W a ta) : DW X Cl W (.BoolOp .And [a] pos) ta := pw_and1 ha
theorem wW (ha : DT X Cl W a ta) : DW X Cl W (.BoolOp .Or [a] pos) ta := pw_or1 ha
theorem kcq (ha : DT X Cl W a ta) (hb : DW X Cl W (.BoolOp .And (b :: rest) pos) tb) : DW X Cl W (.BoolOp .And (a :: b :: rest) pos) (waw ta tb) := PW.imp (pw_and ha hb) fun σ H Q ⟨Z, ρ, r, I, e, q⟩ => by
  unfold waw at e
  cases e1 : ta ρ with
  | none => rw [e1] at e; cases e
  | some r1 =>
    refine wZ I e1 (fun er z => ?_) fun b H1 ev s1 I1 => ?_
    · rw [e1, z] at e
      cases e
      exact q
    · subst ev
      rw [e1] at e
      cases b with
      | true =>
        rw [if_pos rfl]
        refine ⟨Z, ρ, r, I1, e, ?_⟩
        cases r with
        | error er => exact qS.same s1 q
        | ok b => exact fun H2 s2 => q H2 (s1.trans s2)
      | false =>
        cases e
        exact q H1 s1
theorem qaa (ha : DT X Cl W a ta) (hb : DW X Cl W (.BoolOp .Or (b :: rest) pos) tb) : DW X Cl W (.BoolOp .Or (a :: b :: rest) pos) (zB ta tb) := PW.imp (pw_or ha hb) fun σ H Q ⟨Z, ρ, r, I, e, q⟩ => by
  unfold zB at e
  cases e1 : ta ρ with
  | none => rw [e1] at e; cases e
  | some r1 =>
    refine wZ I e1 (fun er z => ?_) fun b H1 ev s1 I1 => ?_
    · rw [e1, z] at e
      cases e
      exact q
    · subst ev
      rw [e1] at e
      cases b with
      | false =>
        rw [if_neg Bool.false_ne_true]
        refine ⟨Z, ρ, r, I1, e, ?_⟩
        cases r with
        | error er => exact qS.same s1 q
        | ok b => exact fun H2 s2 => q H2 (s1.trans s2)
      | true =>
        cases e
        exact q H1 s1
theorem wai (h : DW X Cl W e ta) : DT X Cl W e ta := PW.pt h
theorem ybI (ha : DT X Cl W a ta) : DT X Cl W (.UnaryOp .Not a pos) (vaw ta) := PT.imp (pt_not ha) fun σ H Q ⟨Z, ρ, r, I, e, q⟩ => by
  unfold vaw at e
  cases e1 : ta ρ with
  | none => rw [e1] at e; cases e
  | some r1 =>
    refine wZ I e1 (fun er z => ?_) fun b H1 ev s1 I1 => ?_
    · rw [e1, z] at e
      cases e
      exact q
    · subst ev
      rw [e1] at e
      cases e
      exact q H1 s1
@[simp] def eIf (t : FT) (f g : FE) (ρ : jc) : Option (Except Er Val) := match t ρ with
  | none => none
  | some (.error e) => some (.error e)
  | some (.ok true) => f ρ
  | some (.ok false) => g ρ
@[simp] def eT (t : FT) (ρ : jc) : Option (Except Er Val) := match t ρ with
  | none => none
  | some (.error e) => some (.error e)
  | some (.ok b) => ok (.bool b)
def vdb (f g : FE) : FE := bE f fun v ρ => match v.d with
  | .bool true => g ρ
  | .bool false => ok (.bool false)
  | _ => none
def ydh (f g : FE) : FE := bE f fun v ρ => match v.d with
  | .bool false => g ρ
  | .bool true => ok (.bool true)
  | _ => none
@[simp] def jdR (v : Val) : Option Val := match v.d with
  | .bool b => some (.s (.bool (!b)))
  | _ => none
end
inductive Out where
  | nx (ρ : jc) | ret (d : D) | retF (ds : List D) | retX (ds : List D) (k : Nat) | brk (ρ : jc) | ct (ρ : jc) | exc (ρ : jc) (c : Nat) (i : Int)
abbrev FS := jc → Option Out
structure SI (K : PySem.W.Frag) (Cl : Nat → Addr) (H0 : Hp) (Z : Addr → Prop) (H : Hp) (σ : St) (ρ : jc) : Prop where
  di : DI K Cl Z H σ ρ
  same : Same Cl H0 H
  new : ∀ a, qk σ ρ a → H0 a = none
def OOk (K : PySem.W.Frag) (Cl : Nat → Addr) (W : WX) (H0 : Hp) (Z : Addr → Prop) (D : Ends) : Out → Prop
  | .nx ρ => ∀ σ H, SI K Cl H0 Z H σ ρ → D.nx σ H
  | .brk ρ => ∀ σ H, SI K Cl H0 Z H σ ρ → D.bk σ H
  | .ct ρ => ∀ σ H, SI K Cl H0 Z H σ ρ → D.ct σ H
  | .ret d => ∀ v H, Same Cl H0 H → Dp K (hide H Z) v d → D.rt v H
  | .retF ds => ∀ p xs H, Same Cl H0 H → H0 p = none → H p = some (.lst xs) → DpAll K (hide H (ZP Z p)) xs ds → D.rt (.ref p) H
  | .retX ds k => ∀ T p xs ys H, Same Cl H0 H → SqT K (hide H Z) T xs → DpAll K (hide H Z) xs ds → xs[k]? = some (.ref p) → H0 p = none → H p = some (.lst ys) → D.rt (.ref T) H
  | .exc ρ c i => ∀ dd σ H, SI K Cl H0 Z H σ ρ → H dd = some (.xd [(("at" : Str), .int i)]) → W (.ref (Cl c)) (some dd) σ H
def za2 (K : PySem.W.Frag) (Cl : Nat → Addr) (W : WX) (f : FS) : TS := fun D σ H => ∃ H0 Z ρ o, SI K Cl H0 Z H σ ρ ∧ f ρ = some o ∧ OOk K Cl W H0 Z D o
def DS (X : Cx) (Cl : Nat → Addr) (W : WX) (st : Stmt) (f : FS) : Prop := PS X st (za2 X.K Cl W f)
def DSs (X : Cx) (Cl : Nat → Addr) (W : WX) (st : List Stmt) (f : FS) : Prop := PSs X st (za2 X.K Cl W f)
section
variable {K : PySem.W.Frag} {Cl : Nat → Addr} {W : WX} {H0 H1 : Hp} {Z : Addr → Prop} {H H' : Hp} {σ : St} {ρ : jc} {D : Ends}
theorem SI.zu (I : SI K Cl H0 Z H σ ρ) (s : Same Cl H H') : SI K Cl H0 Z H' σ ρ := ⟨I.di.same s, I.same.trans s, I.new⟩
theorem SI.rebase (I : SI K Cl H1 Z H σ ρ) (s : Same Cl H0 H1) : SI K Cl H0 Z H σ ρ := ⟨I.di, s.trans I.same, fun a h => s.free (I.new a h)⟩
theorem OOk.rebase {o : Out} (s : Same Cl H0 H1) (h : OOk K Cl W H0 Z D o) : OOk K Cl W H1 Z D o := by
  cases o with
  | nx ρ => exact fun σ H I => h σ H (I.rebase s)
  | brk ρ => exact fun σ H I => h σ H (I.rebase s)
  | ct ρ => exact fun σ H I => h σ H (I.rebase s)
  | ret d => exact fun v H q e => h v H (s.trans q) e
  | retF ds => exact fun p xs H q n e1 e2 => h p xs H (s.trans q) (s.free n) e1 e2
  | retX ds k => exact fun T p xs ys H q e1 e2 e3 n e4 => h T p xs ys H (s.trans q) e1 e2 e3 (s.free n) e4
  | exc ρ c i => exact fun dd σ H I e => h dd σ H (I.rebase s) e
theorem OOk.err {e : Er} (I : SI K Cl H0 Z H σ ρ) (h : OOk K Cl W H0 Z D (.exc ρ e.1 e.2)) : qS Cl W σ H e := fun dd H' s hd => h dd σ H' (I.zu s) hd
theorem TBl.over {H4 : Hp} {L : Addr} {acc zs : List V} (t : TBl Cl H4) (hL : H4 L = some (.lst acc)) : TBl Cl (upd H4 L (.lst zs)) := fun p hp n => by
  have nP : ∀ {b : Addr} {o : HO}, H4 b = some o → (∀ ys, o ≠ .lst ys) → b ≠ L := fun {b o} e n z => by
    rw [z, hL] at e
    exact n _ (Option.some.inj e).symm
  obtain ⟨ps, h1, h2, h3⟩ := t p hp n
  refine ⟨ps, by rw [upd_ne (nP h1 fun _ z => by cases z)]; exact h1, h2, fun pos cv hc => ?_⟩
  obtain ⟨c, e1, e2⟩ := h3 pos cv hc
  exact ⟨c, e1, by rw [upd_ne (nP e2 fun _ z => by unfold LamX.CodeO at z; cases z)]; exact e2⟩
theorem Same.over {H1 H4 : Hp} {L : Addr} {acc zs : List V} (s : Same Cl H1 H4) (nL : H1 L = none) (hL : H4 L = some (.lst acc)) : Same Cl H1 (upd H4 L (.lst zs)) := by
  have ne : ∀ {b : Addr}, H1 b ≠ none → b ≠ L := fun {b} e z => e (by rw [z]; exact nL)
  exact ⟨fun b o e n => by rw [upd_ne (ne (by rw [e]; intro z; cases z))]; exact s.d b o e n, fun t => (s.tb t).over hL, fun b e => (by rw [upd_ne (ne e)]; exact s.live b e), fun b o xs e => (by
    by_cases z : b = L
    · rw [z, upd_same] at e
      cases e
    · rw [upd_ne z] at e
      exact s.nf b o xs e)⟩
theorem qo.slot {i : Nat} {a : Addr} (h : qo σ ρ i a) : ∃ s : Slot, ρ[i]? = some s ∧ s.j6 := by
  rcases h with ⟨_, ds, h2⟩ | ⟨k, ds, h2⟩ | ⟨c, h2⟩
  · exact ⟨_, h2, trivial⟩
  · exact ⟨_, h2, trivial⟩
  · exact ⟨_, h2, trivial⟩
theorem qy {i : Nat} {x : Option V} {s : Slot} (hs : ¬ s.j6) {j : Nat} {a : Addr} (h : qo (σ.set i x) (ρ.set i s) j a) : qo σ ρ j a := by
  by_cases hj : i = j
  · subst hj
    have no : ∀ t : Slot, t.j6 → (ρ.set i s)[i]? ≠ some t := fun t ht h2 => by
      rw [List.getElem?_set, if_pos rfl] at h2
      split at h2
      · rw [Option.some.inj h2] at hs
        exact hs ht
      · cases h2
    rcases h with ⟨_, ds, h2⟩ | ⟨k, ds, h2⟩ | ⟨c, h2⟩
    · exact absurd h2 (no (.own ds) trivial)
    · exact absurd h2 (no (.ownT a k ds) trivial)
    · exact absurd h2 (no (.yV a c) trivial)
  · unfold qo at h ⊢
    rw [List.getElem?_set_ne hj, List.getElem?_set_ne hj] at h
    exact h
theorem DI.wcA (I : DI K Cl Z H σ ρ) {i : Nat} {x : Option V} {s : Slot} (hs : ¬ s.j6) (h : ∀ Hs, zd (hide H (Zo Z σ ρ)) Hs → ka1 K Cl H Hs (some x) s) : DI K Cl Z H (σ.set i x) (ρ.set i s) := by
  have sub : ∀ a, qk (σ.set i x) (ρ.set i s) a → qk σ ρ a := fun a ⟨j, q⟩ => ⟨j, qy hs q⟩
  have hm : zd (hide H (Zo Z σ ρ)) (hide H (Zo Z (σ.set i x) (ρ.set i s))) := vd (zd.refl _) fun b hb => .inl (hb.elim .inl fun z => .inr (sub b z))
  refine ⟨by rw [List.length_set, List.length_set]; exact I.len, fun j k a h1 h2 => I.one j k a (qy hs h1) (qy hs h2), fun a q => I.out a (sub a q), I.live, fun j t e => ?_, I.tb⟩
  by_cases hj : i = j
  · subst hj
    rw [List.getElem?_set, if_pos rfl] at e
    split at e
    · rename_i hl
      cases e
      rw [List.getElem?_set, if_pos rfl, if_pos (by rw [← I.len]; exact hl)]
      exact h _ hm
    · cases e
  · rw [List.getElem?_set_ne hj] at e ⊢
    have q := I.slots j t e
    cases t with
    | un => trivial
    | dat d =>
      obtain ⟨v, e1, h1⟩ := q
      exact ⟨v, e1, Dp.same hm h1⟩
    | own ds =>
      obtain ⟨a, xs, e1, e2, h1⟩ := q
      exact ⟨a, xs, e1, e2, DpAll.same hm h1⟩
    | err a dd j => exact q
    | ownT a k ds =>
      obtain ⟨T, e1, h1⟩ := q
      exact ⟨T, e1, h1.same hm fun _ z => z⟩
    | pin a => exact q
    | ob k fs => exact z6.same hm q
    | yV a c =>
      obtain ⟨e1, u, e2, h1⟩ := q
      exact ⟨e1, u, e2, h1.same hm⟩
theorem DI.yz (I : DI K Cl Z H σ ρ) {i : Nat} {v : V} {d : DL.D} (h : Dp K (hide H (Zo Z σ ρ)) v d) : DI K Cl Z H (σ.set i (some v)) (ρ.set i (.dat d)) :=
  I.wcA (fun z => nomatch z) fun Hs s => ⟨v, rfl, Dp.same s h⟩
theorem DI.kam (I : DI K Cl Z H σ ρ) {i : Nat} {x : Option V} : DI K Cl Z H (σ.set i x) (ρ.set i .un) := I.wcA (fun z => nomatch z) fun _ _ => trivial
theorem SI.yz (I : SI K Cl H0 Z H σ ρ) {i : Nat} {v : V} {d : DL.D} (h : Dp K (hide H (Zo Z σ ρ)) v d) : SI K Cl H0 Z H (σ.set i (some v)) (ρ.set i (.dat d)) :=
  ⟨I.di.yz h, I.same, fun a ⟨j, q⟩ => I.new a ⟨j, qy (s := .dat d) (fun z => nomatch z) q⟩⟩
theorem SI.kam (I : SI K Cl H0 Z H σ ρ) {i : Nat} {x : Option V} : SI K Cl H0 Z H (σ.set i x) (ρ.set i .un) :=
  ⟨I.di.kam, I.same, fun a ⟨j, q⟩ => I.new a ⟨j, qy (s := .un) (fun z => nomatch z) q⟩⟩
theorem xay {i : Nat} {p : Addr} {es : List DL.D} {j : Nat} {a : Addr} (h : qo (σ.set i (some (.ref p))) (ρ.set i (.own es)) j a) : (i = j ∧ a = p) ∨ (i ≠ j ∧ qo σ ρ j a) := by
  by_cases hj : i = j
  · subst hj
    rcases h with ⟨h1, ds, h2⟩ | ⟨k, ds, h2⟩ | ⟨c, h2⟩
    · rw [List.getElem?_set, if_pos rfl] at h1
      split at h1
      · cases h1
        exact .inl ⟨rfl, rfl⟩
      · cases h1
    · rw [List.getElem?_set, if_pos rfl] at h2
      split at h2
      · cases h2
      · cases h2
    · rw [List.getElem?_set, if_pos rfl] at h2
      split at h2
      · cases h2
      · cases h2
  · unfold qo at h
    rw [List.getElem?_set_ne hj, List.getElem?_set_ne hj] at h
    exact .inr ⟨hj, h⟩
theorem DI.ja3 (I : DI K Cl Z H1 σ ρ) (s1 : Same Cl H1 H) {i : Nat} {p : Addr} {xs : List V} {ds : List DL.D} (np : H1 p = none) (hp : H p = some (.lst xs)) (h : DpAll K (hide H (ZP (Zo Z σ ρ) p)) xs ds) : DI K Cl Z H (σ.set i (some (.ref p))) (ρ.set i (.own ds)) := by
  have nz : ¬ Zo Z σ ρ p := fun z => I.jZ z np
  have no : ∀ j, ¬ qo σ ρ j p := fun j q => nz (.inr ⟨j, q⟩)
  have sub : ∀ b, Zo Z (σ.set i (some (.ref p))) (ρ.set i (.own ds)) b → ZP (Zo Z σ ρ) p b := fun b hb => by
    rcases hb with hb | ⟨j, q⟩
    · exact .inl (.inl hb)
    · rcases xay q with ⟨_, e⟩ | ⟨_, q⟩
      · exact .inr e
      · exact .inl (.inr ⟨j, q⟩)
  have hm : zd (hide H (ZP (Zo Z σ ρ) p)) (hide H (Zo Z (σ.set i (some (.ref p))) (ρ.set i (.own ds)))) := vd (zd.refl _) fun b hb => .inl (sub b hb)
  have hm1 : zd (hide H1 (Zo Z σ ρ)) (hide H (Zo Z (σ.set i (some (.ref p))) (ρ.set i (.own ds)))) := xl s1 fun b hb => by
    rcases sub b hb with z | rfl
    · exact .inl z
    · exact .inr np
  have I' := I.same s1
  refine ⟨by rw [List.length_set, List.length_set]; exact I.len, fun j k a h1 h2 => ?_, fun a ⟨j, q⟩ => ?_, I'.live, fun j t e => ?_, I'.tb⟩
  · rcases xay h1 with ⟨e1, e2⟩ | ⟨n1, q1⟩
    · rcases xay h2 with ⟨e3, e4⟩ | ⟨n2, q2⟩
      · rw [← e1, ← e3]
      · rw [e2] at q2
        exact absurd q2 (no k)
    · rcases xay h2 with ⟨e3, e4⟩ | ⟨n2, q2⟩
      · rw [e4] at q1
        exact absurd q1 (no j)
      · exact I.one j k a q1 q2
  · rcases xay q with ⟨_, e⟩ | ⟨_, q⟩
    · rw [e]
      exact fun z => nz (.inl z)
    · exact I.out a ⟨j, q⟩
  · by_cases hj : i = j
    · subst hj
      rw [List.getElem?_set, if_pos rfl] at e
      split at e
      · rename_i hl
        cases e
        rw [List.getElem?_set, if_pos rfl, if_pos (by rw [← I.len]; exact hl)]
        exact ⟨p, xs, rfl, hp, DpAll.same hm h⟩
      · cases e
    · rw [List.getElem?_set_ne hj] at e ⊢
      have q := I.slots j t e
      cases t with
      | un => trivial
      | dat d =>
        obtain ⟨v, e1, h1⟩ := q
        exact ⟨v, e1, Dp.same hm1 h1⟩
      | own es =>
        obtain ⟨a, ys, e1, e2, h1⟩ := q
        exact ⟨a, ys, e1, s1.at e2, DpAll.same hm1 h1⟩
      | err a dd j => exact ⟨q.1, s1.at q.2⟩
      | ownT a k ds =>
        obtain ⟨T, e1, h1⟩ := q
        exact ⟨T, e1, h1.same hm1 fun _ z => s1.at z⟩
      | pin a => exact q
      | ob k fs => exact z6.same hm1 q
      | yV a c =>
        obtain ⟨e1, u, e2, h1⟩ := q
        exact ⟨e1, u, s1.yV h1 e2, h1.same hm1⟩
theorem SI.ja3 (I : SI K Cl H0 Z H1 σ ρ) (s1 : Same Cl H1 H) {i : Nat} {p : Addr} {xs : List V} {ds : List DL.D} (np : H1 p = none) (hp : H p = some (.lst xs)) (h : DpAll K (hide H (ZP (Zo Z σ ρ) p)) xs ds) : SI K Cl H0 Z H (σ.set i (some (.ref p))) (ρ.set i (.own ds)) := by
  refine ⟨I.di.ja3 s1 np hp h, I.same.trans s1, fun a ⟨j, q⟩ => ?_⟩
  rcases xay q with ⟨_, e⟩ | ⟨_, q⟩
  · rw [e]
    exact I.same.free np
  · exact I.new a ⟨j, q⟩
theorem SI.write (I : SI K Cl H0 Z H σ ρ) {i : Nat} {p : Addr} {xs : List V} {ds es : List DL.D} (hi : σ[i]? = some (some (.ref p))) (hr : ρ[i]? = some (.own es)) (h : DpAll K (hide H (Zo Z σ ρ)) xs ds) : SI K Cl H0 Z (upd H p (.lst xs)) σ (ρ.set i (.own ds)) := by
  have hil : i < ρ.length := (List.getElem?_eq_some_iff.mp hr).1
  have kay : ∀ j a, qo σ (ρ.set i (.own ds)) j a ↔ qo σ ρ j a := fun j a => by
    by_cases hj : i = j
    · subst hj
      constructor
      · rintro (⟨h1, _⟩ | ⟨k, d, h2⟩ | ⟨c, h2⟩)
        · exact .inl ⟨h1, es, hr⟩
        · rw [List.getElem?_set, if_pos rfl, if_pos hil] at h2
          cases h2
        · rw [List.getElem?_set, if_pos rfl, if_pos hil] at h2
          cases h2
      · rintro (⟨h1, _⟩ | ⟨k, d, h2⟩ | ⟨c, h2⟩)
        · exact .inl ⟨h1, ds, by rw [List.getElem?_set, if_pos rfl, if_pos hil]⟩
        · rw [hr] at h2
          cases h2
        · rw [hr] at h2
          cases h2
    · unfold qo
      rw [List.getElem?_set_ne hj]
  have vc0 : ∀ b, Zo Z σ (ρ.set i (.own ds)) b ↔ Zo Z σ ρ b := fun b => by
    constructor
    · rintro (z | ⟨j, q⟩)
      · exact .inl z
      · exact .inr ⟨j, (kay j b).mp q⟩
    · rintro (z | ⟨j, q⟩)
      · exact .inl z
      · exact .inr ⟨j, (kay j b).mpr q⟩
  have hpo : qk σ ρ p := ⟨i, .inl ⟨hi, es, hr⟩⟩
  have hm : zd (hide H (Zo Z σ ρ)) (hide (upd H p (.lst xs)) (Zo Z σ (ρ.set i (.own ds)))) := fun b o e _ => by
    obtain ⟨n, e1⟩ := zi e
    have nb : b ≠ p := fun z => n (.inr (z ▸ hpo))
    exact ze (fun z => n ((vc0 b).mp z)) (by rw [upd_ne nb]; exact e1)
  have live : ∀ a, H a ≠ none → upd H p (.lst xs) a ≠ none := fun a h z => by
    by_cases e : a = p
    · rw [e, upd_same] at z; cases z
    · rw [upd_ne e] at z; exact h z
  refine ⟨⟨by rw [List.length_set]; exact I.di.len, fun j k a h1 h2 => I.di.one j k a ((kay j a).mp h1) ((kay k a).mp h2), fun a ⟨j, q⟩ => I.di.out a ⟨j, (kay j a).mp q⟩, fun a z => live a (I.di.live a z), fun j t e => ?_, ?_⟩, ?_, fun a ⟨j, q⟩ => I.new a ⟨j, (kay j a).mp q⟩⟩
  · by_cases hj : i = j
    · subst hj
      rw [List.getElem?_set, if_pos rfl, if_pos hil] at e
      cases e
      exact ⟨p, xs, hi, upd_same, DpAll.same hm h⟩
    · rw [List.getElem?_set_ne hj] at e
      have q := I.di.slots j t e
      cases t with
      | un => trivial
      | dat d =>
        obtain ⟨v, e1, h1⟩ := q
        exact ⟨v, e1, Dp.same hm h1⟩
      | own gs =>
        obtain ⟨a, ys, e1, e2, h1⟩ := q
        have na : a ≠ p := fun z => hj (I.di.one i j p (.inl ⟨hi, es, hr⟩) (.inl ⟨by rw [← z]; exact e1, gs, e⟩))
        exact ⟨a, ys, e1, by rw [upd_ne na]; exact e2, DpAll.same hm h1⟩
      | err a dd j =>
        obtain ⟨p', xs', ep, hp', _⟩ := I.di.slots i _ hr
        rw [hi] at ep
        cases ep
        have nd : dd ≠ p := fun z => by
          have q2 := q.2
          rw [z, hp'] at q2
          cases q2
        exact ⟨q.1, by rw [upd_ne nd]; exact q.2⟩
      | ownT a k gs =>
        obtain ⟨T, e1, h1⟩ := q
        have na : a ≠ p := fun z => hj (I.di.one i j p (.inl ⟨hi, es, hr⟩) (.inr (.inl ⟨k, gs, by rw [← z]; exact e⟩)))
        exact ⟨T, e1, h1.same hm fun _ z => by rw [upd_ne na]; exact z⟩
      | pin a => exact q
      | ob k fs => 
        exact z6.same hm q
      | yV a c =>
        obtain ⟨e1, u, e2, h1⟩ := q
        have na : a ≠ p := fun z => hj (I.di.one i j p (.inl ⟨hi, es, hr⟩) (.inr (.inr ⟨c, by rw [← z]; exact e⟩)))
        exact ⟨e1, u, by rw [upd_ne na]; exact e2, h1.same hm⟩
  · obtain ⟨p', xs', ep, hp', _⟩ := I.di.slots i _ hr
    rw [hi] at ep
    cases ep
    exact I.di.tb.over hp'
  · obtain ⟨p', xs', ep, hp', _⟩ := I.di.slots i _ hr
    rw [hi] at ep
    cases ep
    exact I.same.over (I.new p hpo) hp'
end
section
variable {X : Cx} {Cl : Nat → Addr} {W : WX} {e e' : Expr} {f f' : FE} {st : Stmt} {sts sts' : List Stmt} {pos : Pos} {K : PySem.W.Frag}
@[simp] def sE (f : FE) (k : Val → FS) (ρ : jc) : Option Out := match f ρ with
  | none => none
  | some (.error e) => some (.exc ρ e.1 e.2)
  | some (.ok v) => k v ρ
theorem kab {H0 : Hp} {Z : Addr → Prop} {H : Hp} {σ : St} {ρ : jc} {D : Ends} {k : Val → FS} {o : Out} {Q1 : VK} (I : SI K Cl H0 Z H σ ρ) (h : sE f k ρ = some o) (q : OOk K Cl W H0 Z D o)
    (go : ∀ v x H1, f ρ = some (.ok v) → k v ρ = some o → Same Cl H H1 → qx K Z σ ρ H H1 x v → SI K Cl H0 Z H1 σ ρ → Q1 x H1) : vM K Cl W f σ H Q1 := by
  unfold sE at h
  cases e : f ρ with
  | none => rw [e] at h; cases h
  | some r1 =>
    rw [e] at h
    refine qK I.di e (fun er z => ?_) fun v x H1 ev s1 hv I1 => ?_
    · subst z
      cases h
      exact OOk.err I q
    · subst ev
      exact go v x H1 e h s1 hv (I.zu s1)
@[simp] def qh (ρ : jc) : Option Out := some (.nx ρ)
@[simp] def yb (f g : FS) (ρ : jc) : Option Out := match f ρ with
  | some (.nx ρ') => g ρ'
  | r => r
theorem zh : DSs X Cl W [] qh := PSs.imp pss_nil fun D σ H ⟨H0, Z, ρ, o, I, e, q⟩ => by cases e; exact q σ H I
theorem kc {f : FS} (h : DS X Cl W st f) : DSs X Cl W [st] f := pss_one h
theorem kb {f g : FS} (h1 : DS X Cl W st f) (h2 : DSs X Cl W sts g) : DSs X Cl W (st :: sts) (yb f g) := PSs.imp (pss_cons h1 h2) fun D σ H ⟨H0, Z, ρ, o, I, e, q⟩ => by
  unfold yb at e
  cases e1 : f ρ with
  | none => rw [e1] at e; cases e
  | some o1 =>
    rw [e1] at e
    refine ⟨H0, Z, ρ, o1, I, e1, ?_⟩
    cases o1 with
    | nx ρ' => exact fun σ' H' I' => ⟨H0, Z, ρ', o, I', e, q⟩
    | brk ρ' => cases e; exact q
    | ct ρ' => cases e; exact q
    | ret d => cases e; exact q
    | retF ds => cases e; exact q
    | retX ds k => cases e; exact q
    | exc ρ' c i => cases e; exact q
@[simp] def xdT (ρ : jc) : Option Out := some (.brk ρ)
@[simp] def fCt (ρ : jc) : Option Out := some (.ct ρ)
theorem qbZ : DS X Cl W (.Continue pos) fCt := PS.imp ps_continue fun D σ H ⟨H0, Z, ρ, o, I, e, q⟩ => by cases e; exact q σ H I
@[simp] def jdE (i : Nat) (g : FS) (ρ : jc) : Option Out := match ρ[i]? with
  | some (.own ds) => g (ρ.set i (.dat (.list ds)))
  | _ => g ρ
def yc (i : Nat) (f : FE) : FS := sE f fun v ρ => v.st.map fun d => .nx (ρ.set i (.dat d))
def zS (i : Nat) (f : FE) : FS := sE f fun v ρ => match v with
  | .f ds => some (.nx (ρ.set i (.own ds)))
  | _ => none
theorem qbJ {i : Nat} {D : Ends} {σ : St} {H : Hp} (h : za2 K Cl W (yc i f) D σ H) : tAsg (vM K Cl W f) (gName i) D σ H := by
  obtain ⟨H0, Z, ρ, o, I, e, q⟩ := h
  refine kab I e q fun v x H1 _ h1 s1 hv I1 => ?_
  cases e1 : v.st with
  | none => rw [e1] at h1; cases h1
  | some d =>
    rw [e1] at h1
    cases h1
    exact q _ _ (I1.yz (hv.stab I.di e1))
theorem jcr {i : Nat} {D : Ends} {σ : St} {H : Hp} (h : za2 K Cl W (zS i f) D σ H) : tAsg (vM K Cl W f) (gName i) D σ H := by
  obtain ⟨H0, Z, ρ, o, I, e, q⟩ := h
  refine kab I e q fun v x H1 _ h1 s1 hv I1 => ?_
  split at h1
  · cases h1
    obtain ⟨p, xs, rfl, n, e2, h2⟩ := hv
    exact q _ _ (I.ja3 s1 n e2 h2)
  · cases h1
theorem we {i : Nat} {x : Str} {pos' : Pos} (hN : X.N.Nodup) (he : DE X Cl W e f) (hi : X.N[i]? = some x := by rfl) (hx : Loc X.env.scope x := by first | exact .inl rfl | exact .inr rfl) (hs : swapsWith e (some (.Name x pos')) pos.line X.env = pure false := by rfl) (hf : X.fn x = true ∨ X.env.scope.names.lookup x = some .local := by first | exact .inl rfl | exact .inr rfl) :
    DS X Cl W (.Assign [.Name x pos'] e pos) (yc i f) := PS.imp (ps_set hN hi hx he hs hf) fun D σ H h => qbJ h
theorem waQ {i : Nat} {x : Str} {pos' : Pos} (hN : X.N.Nodup) (he : DE X Cl W e f) (hi : X.N[i]? = some x := by rfl) (hx : Loc X.env.scope x := by first | exact .inl rfl | exact .inr rfl) (hs : swapsWith e (some (.Name x pos')) pos.line X.env = pure false := by rfl) (hf : X.fn x = true ∨ X.env.scope.names.lookup x = some .local := by first | exact .inl rfl | exact .inr rfl) :
    DS X Cl W (.Assign [.Name x pos'] e pos) (zS i f) := PS.imp (ps_set hN hi hx he hs hf) fun D σ H h => jcr h
def ydb (f : FE) : FS := sE f fun _ ρ => some (.nx ρ)
def ji (f : FE) : FS := sE f fun v _ => match v with
  | .s d => some (.ret d)
  | .m d => some (.ret d)
  | .b ds => some (.retF ds)
  | .f ds => some (.retF ds)
theorem yi (he : DE X Cl W e f) : DS X Cl W (.Return (some e) pos) (ji f) := PS.imp (ps_ret he) fun D σ H ⟨H0, Z, ρ, o, I, e, q⟩ => by
  refine kab I e q fun v x H1 _ h1 s1 hv I1 => ?_
  cases v with
  | s d => cases h1; exact q x H1 I1.same (Dp.same (vd (zd.refl _) fun _ h => .inl (.inl h)) hv)
  | m d => cases h1; exact q x H1 I1.same hv
  | b ds =>
    cases h1
    obtain ⟨p, xs, rfl, n, h2, h3⟩ := hv
    refine q p xs H1 I1.same (I.new p n) h2 (DpAll.same (vd (zd.refl _) fun b hb => .inl ?_) h3)
    rcases hb with hb | rfl
    · exact .inl hb
    · exact .inr n
  | f ds =>
    cases h1
    obtain ⟨p, xs, rfl, n, h2, h3⟩ := hv
    refine q p xs H1 I1.same (I.same.free n) h2 (DpAll.same (vd (zd.refl _) fun b hb => .inl ?_) h3)
    rcases hb with hb | rfl
    · exact .inl (.inl hb)
    · exact .inr rfl
@[simp] def ydR (ρ : jc) : Option Out := some (.ret .none)
@[simp] def qg (t : FT) (f g : FS) (ρ : jc) : Option Out := match t ρ with
  | none => none
  | some (.error e) => some (.exc ρ e.1 e.2)
  | some (.ok true) => f ρ
  | some (.ok false) => g ρ
theorem ki {c : Expr} {a b : List Stmt} {t : FT} {f g : FS} (hc : DT X Cl W c t) (ha : DSs X Cl W a f) (hb : DSs X Cl W b g) : DS X Cl W (.If c a b pos) (qg t f g) := PS.imp (ps_if hc ha hb) fun D σ H ⟨H0, Z, ρ, o, I, e, q⟩ => by
  unfold qg at e
  cases e1 : t ρ with
  | none => rw [e1] at e; cases e
  | some r1 =>
    refine wZ I.di e1 (fun er z => ?_) fun b H1 ev s1 I1 => ?_
    · subst z
      rw [e1] at e
      cases e
      exact OOk.err I q
    · subst ev
      rw [e1] at e
      cases b with
      | true =>
        rw [if_pos rfl]
        exact ⟨H0, Z, ρ, o, I.zu s1, e, q⟩
      | false =>
        rw [if_neg Bool.false_ne_true]
        exact ⟨H0, Z, ρ, o, I.zu s1, e, q⟩
@[simp] def ya3 (i : Nat) (g : Int → Int → Int) (f : FE) (ρ : jc) : Option Out := match ρ[i]? with
  | some (.dat (.int a)) => sE f (fun v ρ => match v.d with
    | .int b => some (.nx (ρ.set i (.dat (.int (g a b)))))
    | _ => none) ρ
  | _ => none
theorem wcr {i : Nat} {x : Str} {op : Operator} {g : Int → Int → Int} {pos' : Pos} (hN : X.N.Nodup) (he : DE X Cl W e f) (ho : PIp X op (ipI g)) (hi : X.N[i]? = some x := by rfl) (hx : Loc X.env.scope x := by first | exact .inl rfl | exact .inr rfl) (hf : X.fn x = true ∨ X.env.scope.names.lookup x = some .local := by first | exact .inl rfl | exact .inr rfl) :
    DS X Cl W (.AugAssign (.Name x pos') op e pos) (ya3 i g f) := PS.imp (ps_aug hN hi hx he ho hf) fun D σ H ⟨H0, Z, ρ, o, I, e, q⟩ => by
  unfold ya3 at e
  split at e
  · rename_i a ha
    obtain ⟨v, e1, h1⟩ := I.di.slots i _ ha
    have e2 := h1.int_inv
    subst e2
    refine ⟨_, e1, kab I e q fun v x H1 _ h1 s1 hv I1 => ?_⟩
    split at h1
    · rename_i b hb
      cases h1
      exact ⟨a, b, rfl, hv.int_inv I.di hb, q _ _ (I1.yz (.int _))⟩
    · cases h1
  · cases e
theorem xbo {H0 : Hp} {Z : Addr → Prop} {H : Hp} {σ : St} {ρ : jc} {i : Nat} {ds : List D} (I : SI K Cl H0 Z H σ ρ) (h : ρ[i]? = some (.own ds)) : ∃ p xs, σ[i]? = some (some (.ref p)) ∧ H p = some (.lst xs) ∧ DpAll K (hide H (Zo Z σ ρ)) xs ds := I.di.slots i _ h
@[simp] def yad (i : Nat) (k : List D → FS) (ρ : jc) : Option Out := match ρ[i]? with
  | some (.own ds) => k ds ρ
  | _ => none
def xF (i : Nat) (f : FE) : FS := yad i fun ds => sE f fun v ρ => match v.st with
  | some d => if yo (ds.length + 1) = true then some (.nx (ρ.set i (.own (ds ++ [d])))) else none
  | none => none
theorem zaA {i : Nat} {c : Expr} (hp : PE X c (tBM X.K "list" rAppend (tVar i) (tCons (vM X.K Cl W f) tNil))) (hs : swapsWith c none pos.line X.env = pure false := by rfl) : DS X Cl W (.Expr c pos) (xF i f) := PS.imp (ps_expr hp hs) fun D σ H ⟨H0, Z, ρ, o, I, e, q⟩ => by
  unfold xF yad at e
  split at e
  · rename_i ds hd
    obtain ⟨p, xs, e1, e2, h1⟩ := xbo I hd
    refine ⟨_, e1, .inl ⟨rfl, xs, .inl (.inl e2)⟩, kab I e q fun v x H1 _ h2 s1 hv I1 => ?_⟩
    split at h2
    · rename_i d hst
      split at h2
      · rename_i hl
        cases h2
        have h3 := DpAll.same (xl s1 fun _ h => .inl h) h1
        refine ⟨p, xs, x, rfl, rfl, s1.at e2, by have := kA hl; rw [h1.length]; omega, ?_⟩
        exact q _ _ (I1.write e1 hd (h3.append (.cons (hv.stab I.di hst) .nil)))
      · cases h2
    · cases h2
  · cases e
def zcH : V → List V → Hp → VK → Prop := fun x vs H Q => ∃ l b xs zs, x = .ref l ∧ vs = [.ref b] ∧ H l = some (.lst xs) ∧ Rd H b (.lst zs) ∧ xs.length + zs.length ≤ sizeLine ∧ Q .non (upd H l (.lst (xs ++ zs)))
theorem wcU : MtM X "list.extend" zcH := by
  intro pins s σ H x vs v us Q I rx rv h
  obtain ⟨l, b, xs, zs, rfl, rfl, hH, hB, hz, q⟩ := h
  cases rx
  obtain ⟨u, rfl, ru⟩ := rv.one
  cases ru
  obtain ⟨z, its, n, r, hl, e⟩ := I.lstM hH
  obtain ⟨z2, its2, n2, r2, hl2, e2⟩ := Rd.lstM I hB
  have hsz : its.toArray.size + its2.toArray.size ≤ sizeLine := by rw [List.size_toArray, List.size_toArray]; omega
  have hlong : ¬ (!its.toArray.isEmpty && Builtin.List.listTooLong (its.toArray.size + its2.toArray.size)) = true := by
    rw [notLongL hsz, Bool.and_false]
    exact Bool.false_ne_true
  refine call_meets F.slot_list_extend ⟨_, e, rfl⟩ F.entry_list_extend (F.args_list_extend_2 _ _)
    (AutoSeq1.list_extend_list_list_0 l its.toArray n b its2.toArray n2 hlong (by rw [List.size_toArray]; omega) (by omega)) ⟨e, e2, ?_⟩
  refine ⟨.non, _, I.lset (its' := its ++ its2) hH e (by simp) (r.append r2) ?_, rfl, q⟩
  rw [List.length_append]
  omega
def yaq (i : Nat) (f : FE) : FS := yad i fun ds => sE f fun v ρ => match v.items with
  | some es => if yo (ds.length + es.length) = true then some (.nx (ρ.set i (.own (ds ++ es)))) else none
  | none => none
theorem jc1 {i : Nat} {c : Expr} (hp : PE X c (tBM X.K "list" zcH (tVar i) (tCons (vM X.K Cl W f) tNil))) (hs : swapsWith c none pos.line X.env = pure false := by rfl) : DS X Cl W (.Expr c pos) (yaq i f) := PS.imp (ps_expr hp hs) fun D σ H ⟨H0, Z, ρ, o, I, e, q⟩ => by
  unfold yaq yad at e
  split at e
  · rename_i ds hd
    obtain ⟨p, xs, e1, e2, h1⟩ := xbo I hd
    refine ⟨_, e1, .inl ⟨rfl, xs, .inl (.inl e2)⟩, kab I e q fun v x H1 _ h2 s1 hv I1 => ?_⟩
    split at h2
    · rename_i es hst
      split at h2
      · rename_i hl
        cases h2
        have h3 := DpAll.same (xl s1 fun _ h => .inl h) h1
        obtain ⟨b, zs, rfl, h4, h5⟩ := hv.items I.di hst
        refine ⟨p, b, xs, zs, rfl, rfl, s1.at e2, h4, by rw [h1.length, h5.length]; exact kA hl, ?_⟩
        exact q _ _ (I1.write e1 hd (h3.append h5))
      · cases h2
    · cases h2
  · cases e
def zbJ (i : Nat) : FS := yad i fun ds ρ => if ds.isEmpty = true then none else some (.nx (ρ.set i (.own ds.dropLast)))
theorem wc1 {i : Nat} {c : Expr} (hp : PE X c (tBM0 X.K "list" rPop (tVar i))) (hs : swapsWith c none pos.line X.env = pure false := by rfl) : DS X Cl W (.Expr c pos) (zbJ i) := PS.imp (ps_expr hp hs) fun D σ H ⟨H0, Z, ρ, o, I, e, q⟩ => by
  unfold zbJ yad at e
  split at e
  · rename_i ds hd
    obtain ⟨p, xs, e1, e2, h1⟩ := xbo I hd
    dsimp only at e
    split at e
    · cases e
    · rename_i hne
      cases e
      have hl := h1.length
      have hpos : 0 < xs.length := by
        cases ds with
        | nil => exact absurd rfl hne
        | cons a r => rw [hl]; exact Nat.succ_pos _
      obtain ⟨y, hy⟩ : ∃ y, xs[xs.length - 1]? = some y := ⟨_, List.getElem?_eq_getElem (by omega)⟩
      refine ⟨_, e1, .inl ⟨rfl, xs, .inl (.inl e2)⟩, p, xs, y, rfl, rfl, e2, hy, ?_⟩
      exact q _ _ (I.write e1 hd h1.dropLast)
  · cases e
def xdh (i : Nat) (fk fe : FE) : FS := sE fe fun v => yad i fun ds => sE fk fun k ρ => match k.d, v.st with
  | .int j, some d => (ixN ds.length j).map fun n => .nx (ρ.set i (.own (ds.set n d)))
  | _, _ => none
theorem yaz {Z : Addr → Prop} {H : Hp} {σ : St} {ρ : jc} {i : Nat} {x : Option V} {d : D} : zd (hide H (Zo Z σ ρ)) (hide H (Zo Z (σ.set i x) (ρ.set i (.dat d)))) :=
  vd (zd.refl _) fun b hb => .inl (hb.elim .inl fun ⟨j, z⟩ => .inr ⟨j, qy (s := .dat d) (fun z => nomatch z) z⟩)
abbrev FG := D → jc → Option jc
def kdh (K : PySem.W.Frag) (Cl : Nat → Addr) (g : FG) : TG := fun v σ H Q => ∃ H0 Z ρ d ρ', SI K Cl H0 Z H σ ρ ∧ Dp K (hide H (Zo Z σ ρ)) v d ∧ g d ρ = some ρ' ∧ ∀ σ', SI K Cl H0 Z H σ' ρ' → Q σ' H
def DG (X : Cx) (Cl : Nat → Addr) (tg : Expr) (g : FG) : Prop := PG X tg (kdh X.K Cl g)
theorem PG.imp {tg : Expr} {t t' : TG} (h : PG X tg t) (i : ∀ v σ H Q, t' v σ H Q → t v σ H Q) : PG X tg t' := ⟨fun pins s σ H v u Q I r q => h.run pins s σ H v u Q I r (i v σ H Q q)⟩
def gN (i : Nat) : FG := fun d ρ => some (ρ.set i (.dat d))
theorem wA {i : Nat} {x : Str} (hN : X.N.Nodup) (hi : X.N[i]? = some x := by rfl) (hx : Loc X.env.scope x := by first | exact .inl rfl | exact .inr rfl) (hf : X.fn x = true ∨ X.env.scope.names.lookup x = some .local := by first | exact .inl rfl | exact .inr rfl) : DG X Cl (.Name x pos) (gN i) :=
  PG.imp (pg_name hN hi hx hf) fun v σ H Q ⟨H0, Z, ρ, d, ρ', I, h, e, q⟩ => by
    cases e
    exact q _ (I.yz h)
abbrev FGs := List D → jc → Option jc
def xdb (K : PySem.W.Frag) (Cl : Nat → Addr) (g : FGs) : TGs := fun vs σ H Q => ∃ H0 Z ρ ds ρ', SI K Cl H0 Z H σ ρ ∧ DpAll K (hide H (Zo Z σ ρ)) vs ds ∧ g ds ρ = some ρ' ∧ ∀ σ', SI K Cl H0 Z H σ' ρ' → Q σ' H
def DGs (X : Cx) (Cl : Nat → Addr) (tgs : List Expr) (g : FGs) : Prop := PGs X tgs (xdb X.K Cl g)
theorem PGs.imp {tg : List Expr} {t t' : TGs} (h : PGs X tg t) (i : ∀ v σ H Q, t' v σ H Q → t v σ H Q) : PGs X tg t' := ⟨fun pins s σ H v u Q I r q => h.run pins s σ H v u Q I r (i v σ H Q q)⟩
def ju : FGs := fun ds ρ => match ds with
  | [] => some ρ
  | _ => none
def qe (i : Nat) (g : FGs) : FGs := fun ds ρ => match ds with
  | d :: r => g r (ρ.set i (.dat d))
  | [] => none
theorem jO : DGs X Cl [] ju := PGs.imp pgs_nil fun vs σ H Q ⟨H0, Z, ρ, ds, ρ', I, h, e, q⟩ => by
  cases ds with
  | nil => cases e; cases h; exact ⟨rfl, q σ I⟩
  | cons _ _ => cases e
theorem vh {i : Nat} {x : Str} {g : FGs} {es : List Expr} (hN : X.N.Nodup) (hr : DGs X Cl es g) (hi : X.N[i]? = some x := by rfl) (hx : Loc X.env.scope x := by first | exact .inl rfl | exact .inr rfl) (hf : X.fn x = true ∨ X.env.scope.names.lookup x = some .local := by first | exact .inl rfl | exact .inr rfl)
    (hs : (assignEach (.Name x pos :: es) X.env).map (·.2) = assign (.Name x pos) X.env :: (assignEach es X.env).map (·.2) := by rfl) : DGs X Cl (.Name x pos :: es) (qe i g) :=
  PGs.imp (pgs_cons (pg_name hN hi hx hf) hr hs) fun vs σ H Q ⟨H0, Z, ρ, ds, ρ', I, h, e, q⟩ => by
    cases ds with
    | nil => cases e
    | cons d r =>
      cases h with
      | @cons v vr _ _ a b =>
        exact ⟨v, vr, rfl, ⟨H0, Z, ρ.set i (.dat d), r, ρ', I.yz a, DpAll.same yaz b, e, q⟩⟩
def gT (n : Nat) (g : FGs) : FG := fun d ρ => match d with
  | .tuple ds => if ds.length = n then g ds ρ else none
  | _ => none
theorem vW {es : List Expr} {k : Nat} {g : FGs} {n : Nat} (hc : X.calm = true) (h : DGs X Cl es g) (hn : (assignEach es X.env).length = n := by rfl) (hst : (assignEach es X.env).findIdx? (·.1) = none := by rfl) : DG X Cl (.Tuple es k pos) (gT n g) :=
  PG.imp (pg_tup hc h hn hst) fun v σ H Q ⟨H0, Z, ρ, d, ρ', I, hd, e, q⟩ => by
    unfold gT at e
    split at e
    · rename_i ds
      split at e
      · rename_i hl
        obtain ⟨a, xs, rfl, h1, h2⟩ := hd.kD
        exact ⟨a, xs, rfl, SqT.same kf h1, by rw [h2.length]; exact hl, ⟨H0, Z, ρ, ds, ρ', I, h2, e, q⟩⟩
      · cases e
    · cases e
end
abbrev FI := jc → Option (Except Er (List D))
def ja2 (K : PySem.W.Frag) (Hs : Hp) (J : It) (ds : List D) : Prop := ∀ (Z' : Addr → Prop) (H' : Hp), zd Hs (hide H' Z') → (∀ b, Z' b → H' b ≠ none) →
  (∀ i, i < ds.length → J.go i H') ∧ (∀ i, ds.length ≤ i → J.stop i H') ∧ ∀ i x H'' d, J.yld i H' x H'' → ds[i]? = some d → (∀ Cl, Same Cl H' H'') ∧ Dp K (hide H'' Z') x d
def RIk (K : PySem.W.Frag) (Cl : Nat → Addr) (W : WX) (Z : Addr → Prop) (σ : St) (ρ : jc) (H : Hp) (R : It → Hp → Prop) : Except Er (List D) → Prop
  | .ok ds => ∀ J H1, Same Cl H H1 → ja2 K (hide H1 (Zo Z σ ρ)) J ds → R J H1
  | .error e => qS Cl W σ H e
def yc1 (K : PySem.W.Frag) (Cl : Nat → Addr) (W : WX) (f : FI) : TI := fun σ H R => ∃ Z ρ r, DI K Cl Z H σ ρ ∧ f ρ = some r ∧ RIk K Cl W Z σ ρ H R r
def DIt (X : Cx) (Cl : Nat → Addr) (W : WX) (tg e : Expr) (f : FI) : Prop := PI X tg e (yc1 X.K Cl W f)
theorem PI.imp {X : Cx} {tg e : Expr} {t t' : TI} (h : PI X tg e t) (i : ∀ σ H Q, t' σ H Q → t σ H Q) : PI X tg e t' := ⟨fun pins s σ H Q I q => h.run pins s σ H Q I (i σ H Q q)⟩
theorem PI.or {X : Cx} {tg e : Expr} {t t' : TI} (h : PI X tg e t) (h' : PI X tg e t') : PI X tg e (fun σ H R => t σ H R ∨ t' σ H R) := ⟨fun pins s σ H Q I q => q.elim (h.run pins s σ H Q I) (h'.run pins s σ H Q I)⟩
section
variable {X : Cx} {Cl : Nat → Addr} {W : WX} {e tg : Expr} {es : List Expr} {f : FE} {g : FA} {p pos : Pos} {K : PySem.W.Frag}
def signs (x : Str) : List D := x.cps.toList.map fun c => .str ⟨#[c]⟩
@[simp] def yM (f : FE) (ρ : jc) : Option (Except Er (List D)) := match f ρ with
  | none => none
  | some (.error e) => some (.error e)
  | some (.ok v) => match v with
    | .s (.list ds) => some (.ok ds)
    | .s (.tuple ds) => some (.ok ds)
    | .s (.str x) => some (.ok (signs x))
    | .f ds => some (.ok ds)
    | _ => none
theorem xb9 {Hs : Hp} {a : Addr} {xs : List V} {ds : List D} (h1 : Rd Hs a (.lst xs)) (h2 : DpAll K Hs xs ds) : ja2 K Hs (Itl K a) ds := fun Z' H' s _ => by
  have q : SqL K H' a xs := .inl (Rd.same (s.trans kf) h1)
  refine ⟨fun i hi => ⟨xs, xs[i]'(by rw [h2.length]; exact hi), q, List.getElem?_eq_getElem _⟩, fun i hi => ⟨xs, q, by rw [h2.length]; exact hi⟩, fun i x H'' d y hd => ?_⟩
  obtain ⟨rfl, y⟩ := y
  obtain ⟨v, e1, e2⟩ := h2.get hd
  have e3 := y xs q
  rw [e1] at e3
  cases e3
  exact ⟨fun _ => Same.refl _, Dp.same s e2⟩
theorem xc1 {Hs : Hp} {a : Addr} {xs : List V} {ds : List D} (h1 : SqT K Hs a xs) (h2 : DpAll K Hs xs ds) : ja2 K Hs (Itt K a) ds := fun Z' H' s _ => by
  have q : SqT K H' a xs := SqT.same (s.trans kf) h1
  refine ⟨fun i hi => ⟨xs, xs[i]'(by rw [h2.length]; exact hi), q, List.getElem?_eq_getElem _⟩, fun i hi => ⟨xs, q, by rw [h2.length]; exact hi⟩, fun i x H'' d y hd => ?_⟩
  obtain ⟨rfl, y⟩ := y
  obtain ⟨v, e1, e2⟩ := h2.get hd
  have e3 := y xs q
  rw [e1] at e3
  cases e3
  exact ⟨fun _ => Same.refl _, Dp.same s e2⟩
theorem kc1 {Hs : Hp} {x : Str} : ja2 K Hs (Its x) (signs x) := fun Z' H' s _ => by
  have hl : (signs x).length = x.cps.size := by simp [signs]
  refine ⟨fun i hi => ?_, fun i hi => ?_, fun i v H'' d y hd => ?_⟩
  · rw [hl] at hi
    exact hi
  · rw [hl] at hi
    exact hi
  · obtain ⟨rfl, c, hc, rfl⟩ := y
    refine ⟨fun _ => Same.refl _, ?_⟩
    have e2 : (signs x)[i]? = some (.str ⟨#[c]⟩) := by
      unfold signs
      rw [List.getElem?_map, Array.getElem?_toList, hc]
      rfl
    rw [hd] at e2
    cases e2
    exact .str _
theorem wbJ {Hs : Hp} {lo : Int} {n : Nat} : ja2 K Hs (Itr lo n) ((List.range n).map fun (i : Nat) => .int (lo + (i : Int))) := fun Z' H' s _ => by
  refine ⟨fun i hi => (by simpa using hi : i < n), fun i hi => (by simpa using hi : n ≤ i), fun i v H'' d y hd => ?_⟩
  obtain ⟨rfl, rfl⟩ := y
  refine ⟨fun _ => Same.refl _, ?_⟩
  rw [List.getElem?_map] at hd
  cases e : (List.range n)[i]? with
  | none => rw [e] at hd; cases hd
  | some j =>
    rw [e] at hd
    obtain ⟨hi, e1⟩ := List.getElem?_eq_some_iff.mp e
    rw [List.getElem_range] at e1
    subst e1
    cases hd
    exact .int _
def wN (ds : List D) : List D := ds.zipIdx.map fun p => .tuple [.int (p.2 : Int), p.1]
theorem yb8 {Hs : Hp} {a : Addr} {xs : List V} {ds : List D} (h1 : Rd Hs a (.lst xs)) (h2 : DpAll K Hs xs ds) : ja2 K Hs (Ite K a) (wN ds) := fun Z' H' s live => by
  have q : SqL K H' a xs := .inl (Rd.same (s.trans kf) h1)
  have hl : (wN ds).length = xs.length := by
    unfold wN
    rw [List.length_map, List.length_zipIdx, h2.length]
  refine ⟨fun i hi => ⟨xs, xs[i]'(by rw [← hl]; exact hi), q, List.getElem?_eq_getElem _⟩, fun i hi => ⟨xs, q, by rw [← hl]; exact hi⟩, fun i x H'' d y hd => ?_⟩
  obtain ⟨T, z, rfl, nT, rfl, y⟩ := y
  have e3 := y xs q
  obtain ⟨d', e1, e2⟩ := h2.get' e3
  unfold wN at hd
  rw [List.getElem?_map, List.getElem?_zipIdx, e1] at hd
  cases hd
  have nz : ¬ Z' T := fun z => live T z nT
  refine ⟨fun _ => jv nT, .tup (SqT.of (ze nz upd_same)) (.cons ?_ (.cons ?_ .nil))⟩
  · rw [Nat.zero_add]
    exact .int _
  · exact Dp.same (s.trans (vd (xC nT) fun _ h => .inl h)) e2
theorem jao (he : DE X Cl W e f) : DIt X Cl W tg e (yM f) := PI.imp (DL.PI.or (pi_list he) (DL.PI.or (pi_tup he) (pi_str he))) fun σ H R ⟨Z, ρ, r, I, e, q⟩ => by
  unfold yM at e
  cases e1 : f ρ with
  | none => rw [e1] at e; cases e
  | some r1 =>
    rw [e1] at e
    cases r1 with
    | error er =>
      cases e
      exact .inl ⟨Z, ρ, _, I, e1, q⟩
    | ok v =>
      dsimp only at e
      split at e
      · rename_i ds
        cases e
        refine .inl ⟨Z, ρ, _, I, e1, fun x H1 s hv => ?_⟩
        obtain ⟨a, xs, rfl, h1, h2⟩ := Dp.lst_inv (show Dp X.K (hide H1 (Zo Z σ ρ)) x (.list ds) from hv)
        exact ⟨a, rfl, ⟨xs, .inl (Rd.same kf h1)⟩, q _ H1 s (xb9 h1 h2)⟩
      · rename_i ds
        cases e
        refine .inr (.inl ⟨Z, ρ, _, I, e1, fun x H1 s hv => ?_⟩)
        obtain ⟨a, xs, rfl, h1, h2⟩ := Dp.kD (show Dp X.K (hide H1 (Zo Z σ ρ)) x (.tuple ds) from hv)
        exact ⟨a, rfl, ⟨xs, SqT.same kf h1⟩, q _ H1 s (xc1 h1 h2)⟩
      · rename_i y
        cases e
        refine .inr (.inr ⟨Z, ρ, _, I, e1, fun x H1 s hv => ?_⟩)
        exact ⟨y, (show Dp X.K (hide H1 (Zo Z σ ρ)) x (.str y) from hv).str_inv, q _ H1 s kc1⟩
      · rename_i ds
        cases e
        refine .inl ⟨Z, ρ, _, I, e1, fun x H1 s hv => ?_⟩
        obtain ⟨a, xs, rfl, n, h1, h2⟩ := hv
        have np : ¬ Zo Z σ ρ a := fun z => I.jZ z n
        exact ⟨a, rfl, ⟨xs, SqL.of h1⟩, q _ H1 s (xb9 (Rd.of (ze np h1)) (DpAll.same (vd (zd.refl _) fun _ h => .inl (.inl h)) h2))⟩
      · cases e
def yh (lo : Int) (n : Nat) : List D := (List.range n).map fun (i : Nat) => .int (lo + (i : Int))
def zab (j : Int) : Bool := decide (-(2 ^ 62) ≤ j) && decide (j < 2 ^ 62)
theorem qbp {j : Int} (h : zab j = true) : -(2 ^ 62) ≤ j ∧ j < 2 ^ 62 := by
  simp only [zab, Bool.and_eq_true, decide_eq_true_eq] at h
  exact h
@[simp] def wi (g : FA) (ρ : jc) : Option (Except Er (List D)) := match g ρ with
  | none => none
  | some (.error e) => some (.error e)
  | some (.ok vs) => match vs with
    | [v] => match v.d with
      | .int j => if zab j = true then some (.ok (yh 0 j.toNat)) else none
      | _ => none
    | _ => none
@[simp] def vZ (g : FA) (ρ : jc) : Option (Except Er (List D)) := match g ρ with
  | none => none
  | some (.error e) => some (.error e)
  | some (.ok vs) => match vs with
    | [v, u] => match v.d, u.d with
      | .int i, .int j => if (zab i && zab j) = true then some (.ok (yh i (j - i).toNat)) else none
      | _, _ => none
    | _ => none
theorem kr {a : Expr} (hm : X.mg "range" = none) (ha : DA X Cl W [a] g) (hg : Gl X "range" := by rfl) (hs : starEach [a] X.env = [(false, eval a X.env)] := by rfl) : DIt X Cl W tg (.Call (.Name "range" p) [a] [] pos) (wi g) :=
  PI.imp (pi_range1 hg hm ha hs) fun σ H R ⟨Z, ρ, r, I, e, q⟩ => by
    unfold wi at e
    cases e1 : g ρ with
    | none => rw [e1] at e; cases e
    | some r1 =>
      rw [e1] at e
      refine yB I e1 (fun er z => ?_) fun vs xs H1 ev s1 hvs I1 => ?_
      · subst z
        cases e
        exact q
      · subst ev
        dsimp only at e
        split at e
        · rename_i v
          obtain ⟨x, rfl, h⟩ := hvs.one
          split at e
          · rename_i j ej
            split at e
            · rename_i hc
              cases e
              obtain ⟨h1, h2⟩ := qbp hc
              exact ⟨j, by rw [h.int_inv I ej], h1, h2, q _ H1 s1 wbJ⟩
            · cases e
          · cases e
        · cases e
theorem kbx {a b : Expr} (hm : X.mg "range" = none) (ha : DA X Cl W [a, b] g) (hg : Gl X "range" := by rfl) (hs : starEach [a, b] X.env = [(false, eval a X.env), (false, eval b X.env)] := by rfl) (hs2 : starEach [b] X.env = [(false, eval b X.env)] := by rfl) :
    DIt X Cl W tg (.Call (.Name "range" p) [a, b] [] pos) (vZ g) :=
  PI.imp (pi_range2 hg hm ha hs hs2) fun σ H R ⟨Z, ρ, r, I, e, q⟩ => by
    unfold vZ at e
    cases e1 : g ρ with
    | none => rw [e1] at e; cases e
    | some r1 =>
      rw [e1] at e
      refine yB I e1 (fun er z => ?_) fun vs xs H1 ev s1 hvs I1 => ?_
      · subst z
        cases e
        exact q
      · subst ev
        dsimp only at e
        split at e
        · rename_i v u
          obtain ⟨x, y, rfl, h, h'⟩ := hvs.two
          split at e
          · rename_i i j ei ej
            split at e
            · rename_i hc
              cases e
              obtain ⟨c1, c2⟩ := Bool.and_eq_true_iff.mp hc
              obtain ⟨h1, h2⟩ := qbp c1
              obtain ⟨h3, h4⟩ := qbp c2
              exact ⟨i, j, by rw [h.int_inv I ei, h'.int_inv I ej], ⟨h1, h2, h3, h4⟩, q _ H1 s1 wbJ⟩
            · cases e
          · cases e
        · cases e
@[simp] def vdE (g : FA) (ρ : jc) : Option (Except Er (List D)) := match g ρ with
  | none => none
  | some (.error e) => some (.error e)
  | some (.ok vs) => match vs with
    | [.s (.list ds)] => some (.ok (wN ds))
    | [.f ds] => some (.ok (wN ds))
    | _ => none
def forL (g : FG) (body : FS) : List D → FS
  | [], ρ => some (.nx ρ)
  | d :: ds, ρ => match g d ρ with
    | none => none
    | some ρ1 => match body ρ1 with
      | some (.nx ρ2) => forL g body ds ρ2
      | some (.ct ρ2) => forL g body ds ρ2
      | some (.brk ρ2) => some (.nx ρ2)
      | r => r
@[simp] def qz (it : FI) (g : FG) (body : FS) (ρ : jc) : Option Out := match it ρ with
  | none => none
  | some (.error e) => some (.exc ρ e.1 e.2)
  | some (.ok ds) => forL g body ds ρ
open Classical in
noncomputable def ku (H : Hp) (σ : St) (ρ : jc) : Hp := fun b => if qk σ ρ b then none else H b
theorem vbf {H : Hp} {σ : St} {ρ : jc} {b : Addr} {o : HO} (h : ku H σ ρ b = some o) : ¬ qk σ ρ b ∧ H b = some o := by
  unfold ku at h
  split at h
  · cases h
  · rename_i n
    exact ⟨n, h⟩
theorem qI {H : Hp} {σ : St} {ρ : jc} {b : Addr} {o : HO} (n : ¬ qk σ ρ b) (h : H b = some o) : ku H σ ρ b = some o := by
  unfold ku
  rw [if_neg n]
  exact h
theorem SI.based {H0 : Hp} {Z : Addr → Prop} {H : Hp} {σ : St} {ρ : jc} (I : SI K Cl H0 Z H σ ρ) : Same Cl H0 (ku H σ ρ) ∧ SI K Cl (ku H σ ρ) Z H σ ρ := by
  have nu : ∀ {b : Addr} {o : HO}, H b = some o → (∀ ys, o ≠ .lst ys) → ((∃ ps, o = .tbl ps) ∨ ∃ q, o = LamX.CodeO b q) → ¬ qk σ ρ b := fun {b o} e n n2 z => by
    have q : (∃ ys, H b = some (.lst ys)) ∨ ∃ u, H b = some u ∧ (∀ ps, u ≠ .tbl ps) ∧ ∀ q, u ≠ LamX.CodeO b q := by
      obtain ⟨i, ⟨h1, ds, h2⟩ | ⟨k, ds, h2⟩ | ⟨c, h2⟩⟩ := z
      · obtain ⟨p, xs, ep, hp, _⟩ := I.di.slots i _ h2
        rw [h1] at ep
        cases ep
        exact .inl ⟨xs, hp⟩
      · obtain ⟨T, _, ⟨xs, ys, es, _, _, _, _, hb, _⟩⟩ := I.di.slots i _ h2
        exact .inl ⟨ys, hb⟩
      · obtain ⟨_, u, hb, h⟩ := I.di.slots i _ h2
        exact .inr ⟨u, hb, h.nt⟩
    rcases q with ⟨ys, q⟩ | ⟨u, q, q1, q2⟩
    · rw [q] at e
      exact n ys (Option.some.inj e).symm
    · rw [q] at e
      cases e
      rcases n2 with ⟨ps, n2⟩ | ⟨r, n2⟩
      · exact q1 ps n2
      · exact q2 r n2
  have s1 : Same Cl H0 (ku H σ ρ) := by
    refine ⟨fun b o e n => qI (fun z => by rw [I.new b z] at e; cases e) (I.same.d b o e n), fun t q hq n => ?_, fun b e z => ?_, fun b o xs e => ?_⟩
    · obtain ⟨ps, h1, h2, h3⟩ := I.same.tb t q hq n
      refine ⟨ps, qI (nu h1 (fun _ z => by cases z) (.inl ⟨ps, rfl⟩)) h1, h2, fun pos cv hc => ?_⟩
      obtain ⟨c, e1, e2⟩ := h3 pos cv hc
      exact ⟨c, e1, qI (nu e2 (fun _ z => by unfold LamX.CodeO at z; cases z) (.inr ⟨_, rfl⟩)) e2⟩
    · have n : ¬ qk σ ρ b := fun z => e (I.new b z)
      unfold DL.ku at z
      rw [if_neg n] at z
      exact I.same.live b e z
    · exact I.same.nf b o xs (vbf e).2
  have s2 : Same Cl (ku H σ ρ) H := .of (fun b o e => (vbf e).2) fun b o xs e => qI (fun z => by
    obtain ⟨i, ⟨h1, ds, h2⟩ | ⟨k, ds, h2⟩ | ⟨c, h2⟩⟩ := z
    · obtain ⟨p, ys, ep, hp, _⟩ := I.di.slots i _ h2
      rw [h1] at ep
      cases ep
      rw [hp] at e
      cases e
    · obtain ⟨T, _, ⟨zs, ys, es, _, _, _, _, hb, _⟩⟩ := I.di.slots i _ h2
      rw [hb] at e
      cases e
    · obtain ⟨_, u, hb, h⟩ := I.di.slots i _ h2
      rw [hb] at e
      exact h.nfz _ _ (Option.some.inj e)) e
  refine ⟨s1, I.di, s2, fun a h => ?_⟩
  unfold DL.ku
  rw [if_pos h]
theorem SI.kept {Z : Addr → Prop} {H H' : Hp} {σ σ' : St} {ρ ρ' : jc} (I : SI K Cl (ku H σ ρ) Z H' σ' ρ') : zd (hide H (Zo Z σ ρ)) (hide H' (Zo Z σ' ρ')) := fun b o e nt => by
  obtain ⟨n, e1⟩ := zi e
  have e2 := qI (fun z => n (.inr z)) e1
  refine ze (fun z => z.elim (fun z => n (.inl z)) fun z => ?_) (I.same.d b o e2 nt)
  rw [I.new b z] at e2
  cases e2
theorem jF {it : FI} {g : FG} {body : List Stmt} {fb : FS} (hp : PassesOwn (model X.prog X.w) X.A X.env X.xe) (hc : X.calm = true) (hi : DIt X Cl W tg e it) (hg : DG X Cl tg g) (hb : DSs X Cl W body fb)
    (hs : ∀ x, foldedSetIterable e X.env x = pure x := by intro _; rfl) : DS X Cl W (.For tg e body [] pos) (qz it g fb) := PS.imp (ps_for hp hc hi hg hb hs) fun D σ H ⟨H0, Z, ρ, o, I, e, q⟩ => by
  unfold qz at e
  cases e1 : it ρ with
  | none => rw [e1] at e; cases e
  | some r1 =>
    rw [e1] at e
    refine ⟨Z, ρ, r1, I.di, e1, ?_⟩
    cases r1 with
    | error er =>
      cases e
      exact OOk.err I q
    | ok ds =>
      dsimp only at e
      intro J H1 s1 hJ
      have I1 := I.zu s1
      obtain ⟨b0, I2⟩ := I1.based
      have q2 := q.rebase b0
      refine ⟨fun i m σ' H' => ∃ ρ', SI X.K Cl (ku H1 σ ρ) Z H' σ' ρ' ∧ forL g fb (ds.drop i) ρ' = some o ∧ m = ds.length - i ∧ i ≤ ds.length, ⟨_, ρ, I2, e, rfl, Nat.zero_le _⟩, fun i m σ' H' => ?_⟩
      rintro ⟨ρ', I', e', rfl, hi⟩
      obtain ⟨go, stop, yld⟩ := hJ (Zo Z σ' ρ') H' I'.kept (fun b z => I'.di.jZ z)
      by_cases hlt : i < ds.length
      · refine .inr ⟨go i hlt, fun σ3 H3 => ∃ ρ3, SI X.K Cl (ku H1 σ ρ) Z H3 σ3 ρ3 ∧ forL g fb (ds.drop (i + 1)) ρ3 = some o, fun σ3 H3 ⟨ρ3, I3, e3⟩ => ⟨ds.length - (i + 1), by omega, ρ3, I3, e3, rfl, hlt⟩, fun x H'' y => ?_⟩
        have hd : ds[i]? = some ds[i] := List.getElem?_eq_getElem hlt
        obtain ⟨s2, hx⟩ := yld i x H'' _ y hd
        rw [List.drop_eq_getElem_cons hlt] at e'
        unfold forL at e'
        cases eg : g ds[i] ρ' with
        | none => rw [eg] at e'; cases e'
        | some ρ1 =>
          rw [eg] at e'
          dsimp only at e'
          refine ⟨_, Z, ρ', ds[i], ρ1, I'.zu (s2 _), hx, eg, fun σ1 I1' => ?_⟩
          cases eb : fb ρ1 with
          | none => rw [eb] at e'; cases e'
          | some ob =>
            rw [eb] at e'
            refine ⟨_, Z, ρ1, ob, I1', eb, ?_⟩
            cases ob with
            | nx ρ2 => exact fun σ3 H3 I3 => ⟨ρ2, I3, e'⟩
            | ct ρ2 => exact fun σ3 H3 I3 => ⟨ρ2, I3, e'⟩
            | brk ρ2 => cases e'; exact fun σ3 H3 I3 => q2 σ3 H3 I3
            | ret d => cases e'; exact q2
            | retF ds => cases e'; exact q2
            | retX ds k => cases e'; exact q2
            | exc ρ2 c i => cases e'; exact q2
      · have hie : i = ds.length := by omega
        subst hie
        rw [List.drop_length] at e'
        cases e'
        exact .inl ⟨stop _ (Nat.le_refl _), q2 σ' H' I'⟩
def qw (t : FT) (body : FS) : Nat → FS
  | 0, _ => none
  | n + 1, ρ => match t ρ with
    | none => none
    | some (.error e) => some (.exc ρ e.1 e.2)
    | some (.ok false) => some (.nx ρ)
    | some (.ok true) => match body ρ with
      | some (.nx ρ2) => qw t body n ρ2
      | some (.ct ρ2) => qw t body n ρ2
      | some (.brk ρ2) => some (.nx ρ2)
      | r => r
theorem jaK {t : FT} {body : FS} : ∀ {n : Nat} {ρ : jc} {o : Out} (m : Nat), qw t body n ρ = some o → n ≤ m → qw t body m ρ = some o
  | 0, _, _, _, h, _ => by cases h
  | n + 1, ρ, o, m, h, hm => by
    obtain ⟨k, rfl⟩ : ∃ k, m = k + 1 := ⟨m - 1, by omega⟩
    unfold qw at h ⊢
    cases e : t ρ with
    | none => rw [e] at h; cases h
    | some r =>
      rw [e] at h
      cases r with
      | error er => exact h
      | ok b =>
        cases b with
        | false => exact h
        | true =>
          dsimp only at h ⊢
          cases eb : body ρ with
          | none => rw [eb] at h; cases h
          | some ob =>
            rw [eb] at h
            cases ob with
            | nx ρ2 => exact jaK k h (by omega)
            | ct ρ2 => exact jaK k h (by omega)
            | brk ρ2 => exact h
            | ret d => exact h
            | retF ds => exact h
            | retX ds k => exact h
            | exc ρ2 c i => exact h
def fuel : Nat := 2 ^ 64
def vbJ (t : FT) (body : FS) : FS := qw t body fuel
theorem kcA {c : Expr} {t : FT} {body : List Stmt} {fb : FS} (hp : PassesOwn (model X.prog X.w) X.A X.env X.xe) (hc : DT X Cl W c t) (hb : DSs X Cl W body fb) : DS X Cl W (.While c body [] pos) (vbJ t fb) := PS.imp (ps_while hp hc hb) fun D σ H ⟨H0, Z, ρ, o, I, e, q⟩ => by
  refine ⟨fun m σ' H' => ∃ ρ', SI X.K Cl H0 Z H' σ' ρ' ∧ qw t fb m ρ' = some o, ⟨fuel, ρ, I, e⟩, fun m σ' H' => ?_⟩
  rintro ⟨ρ', I', e'⟩
  cases m with
  | zero => cases e'
  | succ n =>
    unfold qw at e'
    cases et : t ρ' with
    | none => rw [et] at e'; cases e'
    | some r1 =>
      rw [et] at e'
      refine wZ I'.di et (fun er z => ?_) fun b H1 ev s1 I1 => ?_
      · subst z
        cases e'
        exact OOk.err I' q
      · subst ev
        cases b with
        | false =>
          rw [if_neg Bool.false_ne_true]
          cases e'
          exact q σ' H1 (I'.zu s1)
        | true =>
          rw [if_pos rfl]
          dsimp only at e'
          refine ⟨fun σ3 H3 => ∃ ρ3, SI X.K Cl H0 Z H3 σ3 ρ3 ∧ qw t fb n ρ3 = some o, fun σ3 H3 h => ⟨n, Nat.lt_succ_self n, h⟩, ?_⟩
          cases eb : fb ρ' with
          | none => rw [eb] at e'; cases e'
          | some ob =>
            rw [eb] at e'
            refine ⟨H0, Z, ρ', ob, I'.zu s1, eb, ?_⟩
            cases ob with
            | nx ρ2 => exact fun σ3 H3 I3 => ⟨ρ2, I3, e'⟩
            | ct ρ2 => exact fun σ3 H3 I3 => ⟨ρ2, I3, e'⟩
            | brk ρ2 => cases e'; exact fun σ3 H3 I3 => q σ3 H3 I3
            | ret d => cases e'; exact q
            | retF ds => cases e'; exact q
            | retX ds k => cases e'; exact q
            | exc ρ2 c i => cases e'; exact q
inductive ybf where
  | ret (d : D) | retF (ds : List D) | retX (ds : List D) (k : Nat) | exc (c : Nat) (i : Int)
abbrev DF := List D → Option ybf
def DOk (K : PySem.W.Frag) (Cl : Nat → Addr) (Z : Addr → Prop) (H : Hp) (Q : VK) (E : XK) : ybf → Prop
  | .ret d => ∀ v H', Same Cl H H' → Dp K (hide H' Z) v d → Q v H'
  | .retF ds => ∀ p xs H', Same Cl H H' → H p = none → H' p = some (.lst xs) → DpAll K (hide H' (ZP Z p)) xs ds → Q (.ref p) H'
  | .retX ds k => ∀ T p xs ys H', Same Cl H H' → SqT K (hide H' Z) T xs → DpAll K (hide H' Z) xs ds → xs[k]? = some (.ref p) → H p = none → H' p = some (.lst ys) → Q (.ref T) H'
  | .exc c i => ∀ dd H', Same Cl H H' → H' dd = some (.xd [(("at" : Str), .int i)]) → E (.ref (Cl c)) (some dd) H'
structure ybo (Cl : Nat → Addr) (Z : Addr → Prop) (H : Hp) : Prop where
  lv : ∀ b, Z b → H b ≠ none
  tb : TBl Cl H
def qE (K : PySem.W.Frag) (Cl : Nat → Addr) (n : Nat) (F : DF) : Sp := fun vs H Q E => ∃ Z ds o, ybo Cl Z H ∧ DpAll K (hide H Z) vs ds ∧ ds.length = n ∧ F ds = some o ∧ DOk K Cl Z H Q E o
def wC (n k : Nat) (f : FS) : DF := fun ds => match f (ds.map .dat ++ List.replicate (k - n) .un) with
  | some (.nx _) => some (.ret .none)
  | some (.ret d) => some (.ret d)
  | some (.retF ds) => some (.retF ds)
  | some (.retX ds k) => some (.retX ds k)
  | some (.exc _ c i) => some (.exc c i)
  | _ => none
theorem vcr {σ : St} {ds : List D} {m i : Nat} {a : Addr} (ho : qo σ (ds.map .dat ++ List.replicate m .un) i a) : False := by
  obtain ⟨s, h2, h3⟩ := ho.slot
  rw [List.getElem?_append] at h2
  split at h2
  · rw [List.getElem?_map] at h2
    cases e : ds[i]? with
    | none => rw [e] at h2; cases h2
    | some d => rw [e] at h2; cases h2; cases h3
  · rw [List.getElem?_replicate] at h2
    split at h2
    · cases h2; cases h3
    · cases h2
theorem DI.start {Z : Addr → Prop} {H : Hp} {vs : List V} {ds : List D} {m : Nat} (live : ybo Cl Z H) (h : DpAll K (hide H Z) vs ds) : DI K Cl Z H (vs.map some ++ List.replicate m none) (ds.map .dat ++ List.replicate m .un) := by
  have no : ∀ i a, ¬ qo (vs.map some ++ List.replicate m none) (ds.map .dat ++ List.replicate m .un) i a := fun i a ho => vcr ho
  have hl := h.length
  refine ⟨by simp [hl], fun i j a h1 => absurd h1 (no i a), fun a ⟨i, z⟩ => absurd z (no i a), live.lv, fun i s e => ?_, live.tb⟩
  have hm : zd (hide H Z) (hide H (Zo Z (vs.map some ++ List.replicate m none) (ds.map .dat ++ List.replicate m .un))) := vd (zd.refl _) fun b hb => .inl (hb.elim id fun ⟨j, z⟩ => absurd z (no j b))
  rw [List.getElem?_append] at e
  split at e
  · rename_i hi
    rw [List.length_map] at hi
    rw [List.getElem?_map] at e
    cases e1 : ds[i]? with
    | none => rw [e1] at e; cases e
    | some d =>
      rw [e1] at e
      cases e
      obtain ⟨v, e2, e3⟩ := h.get e1
      refine ⟨v, ?_, Dp.same hm e3⟩
      rw [List.getElem?_append_left (by rw [List.length_map, hl]; exact hi), List.getElem?_map, e2]
      rfl
  · rw [List.getElem?_replicate] at e
    split at e
    · cases e; trivial
    · cases e
theorem ko {P : Program} {w : World} {mg : Str → Option Value} {base : Heap} {x qual : Str} {st : Stmt} {fa : Addr} {fd : FuncData} {N ps : List Str} {k n m : Nat} {fb : FS} (F : Fun K x qual st fa fd) (S : FnScope N ps (defScope st)) (hn : ps.length = n) (hm : N.length = m)
    (h : ∀ (cdv : Value) (A : Around) (outer : List Env) (s : Shared) (H : Hp) (E : XK), Room k (A.deeper (envOfC qual (defScope st) s.heap.objs.size fa cdv)) →
      DSs (cxOf (L2.CX P w) P w K mg base N qual (defScope st) fa cdv A outer s H E) Cl (fun cls d _ H' => E cls d H') (defBody st) fb) : FnOk P w K mg base (L2.CX P w) (k + 1) fa fd ps (qE K Cl n (wC n m fb)) := by
  refine F.okX S (fun vs H Q E ⟨Z, ds, o, _, h1, h2, _⟩ => by rw [h1.length, h2, hn]) (fun cdv A outer s H vs Q E hr hsp => ⟨_, h cdv A outer s H E hr, ?_⟩)
  obtain ⟨Z, ds, o, live, h1, h2, e, q⟩ := hsp
  unfold wC at e
  have hst : L2.start N vs = vs.map some ++ List.replicate (m - n) none := by
    unfold L2.start
    rw [hm, h1.length, h2]
  rw [hst]
  cases eb : fb (ds.map .dat ++ List.replicate (m - n) .un) with
  | none => rw [eb] at e; cases e
  | some ob =>
    rw [eb] at e
    have I := DI.start (m := m - n) live h1
    have noO : ∀ a, qk (vs.map some ++ List.replicate (m - n) none) (ds.map .dat ++ List.replicate (m - n) .un) a → H a = none := fun a ⟨i, ho⟩ => (vcr ho).elim
    refine ⟨H, Z, _, ob, ⟨I, Same.refl _, noO⟩, eb, ?_⟩
    cases ob with
    | nx ρ => cases e; exact fun σ' H' I' => q .non H' I'.same .non
    | ret d => cases e; exact q
    | retF es => cases e; exact q
    | retX ds k => cases e; exact q
    | exc ρ c i => cases e; exact fun dd σ' H' I' hd => q dd H' I'.same hd
    | brk ρ => cases e
    | ct ρ => cases e
@[simp] def wc (F : DF) (n : Nat) (g : FA) (ρ : jc) : Option (Except Er Val) := match g ρ with
  | none => none
  | some (.error e) => some (.error e)
  | some (.ok vs) => if vs.length = n then match F (vs.map Val.d) with
    | none => none
    | some (.exc c i) => some (.error (c, i))
    | some (.ret d) => match vw vs with
      | some _ => some (.ok (.s d))
      | none => some (.ok (.m d))
    | some (.retX ds _) => match vw vs with
      | some _ => some (.ok (.s (.tuple ds)))
      | none => some (.ok (.m (.tuple ds)))
    | some (.retF ds) => match vw vs with
      | some _ => some (.ok (.f ds))
      | none => if ds.all vj = true then some (.ok (.f ds)) else some (.ok (.m (.list ds))) else none
theorem yaQ : ∀ {vs : List Val} {ds : List D}, vw vs = some ds → vs.map Val.d = ds
  | [], _, e => by cases e; rfl
  | v :: vs, ds, e => by
    simp only [vw] at e
    split at e
    · rename_i d es e1 e2
      cases e
      rw [List.map_cons, yaQ e2]
      congr 1
      cases v with
      | s d' => cases e1; rfl
      | m d' =>
        simp only [Val.st] at e1
        split at e1
        · cases e1; rfl
        · cases e1
      | b ds => cases e1
      | f ds => cases e1; rfl
    · cases e
theorem ye {n k : Nat} {F : DF} {fa : Addr} {fd : FuncData} {ps : List Str} {x : Str} (G : FnOk X.prog X.w X.K X.mg X.base (L2.CX X.prog X.w) k fa fd ps (qE X.K Cl n F)) (tk : Takes X W) (hr : Room k X.A) (hm : X.mg x = some (.ref fa)) (hk : PySem.W.keepIn X.K (.ref fa) = true) (hb : Binds X.K fd ps [])
    (ha : DA X Cl W (e :: es) g) (hg : Gl X x := by rfl) (hdb : (x == ("__debug__" : Str)) = false := by decide) (he : starEach (e :: es) X.env = (false, eval e X.env) :: starEach es X.env := by rfl) (hpl : (backTo pos (starEach es X.env)).any (·.1) = false := by rfl) :
    DE X Cl W (.Call (.Name x p) (e :: es) [] pos) (wc F n g) := PE.imp (pe_callS (E := WE W) G hr hg hm hk hb (fun σ => passAt tk σ) ha hdb he hpl) fun σ H Q ⟨Z, ρ, r, I, e, q⟩ => by
  unfold wc at e
  cases e1 : g ρ with
  | none => rw [e1] at e; cases e
  | some r1 =>
    rw [e1] at e
    refine yB I e1 (fun er z => ?_) fun vs xs H1 ev s1 hvs I1 => ?_
    · subst z
      cases e
      exact q
    · subst ev
      dsimp only at e
      split at e
      · rename_i hn
        cases eF : F (vs.map Val.d) with
        | none => rw [eF] at e; cases e
        | some o =>
          rw [eF] at e
          cases es : vw vs with
          | some ds =>
            have ed := yaQ es
            refine ⟨Zo Z σ ρ, ds, o, ⟨fun b z => I1.jZ z, I1.tb⟩, hvs.stab I es, by rw [wbx es]; exact hn, by rw [← ed]; exact eF, ?_⟩
            cases o with
            | exc c i => cases e; exact fun dd H' s hd => q dd H' (s1.trans s) hd
            | ret d =>
              rw [es] at e
              cases e
              exact fun v H' s hd => q v H' (s1.trans s) hd
            | retX gs k =>
              rw [es] at e
              cases e
              exact fun T p xs ys H' s h1 h2 _ _ _ => q _ H' (s1.trans s) (.tup h1 h2)
            | retF gs =>
              rw [es] at e
              cases e
              exact fun p xs H' s n h2 h3 => q _ H' (s1.trans s) ⟨p, xs, rfl, s1.free n, h2, h3⟩
          | none =>
            refine ⟨Z, vs.map Val.d, o, ⟨fun b z => I1.live b z, I1.tb⟩, hvs.dp I, by rw [List.length_map]; exact hn, eF, ?_⟩
            cases o with
            | exc c i => cases e; exact fun dd H' s hd => q dd H' (s1.trans s) hd
            | ret d =>
              rw [es] at e
              cases e
              exact fun v H' s hd => q v H' (s1.trans s) hd
            | retX gs k =>
              rw [es] at e
              cases e
              exact fun T p xs ys H' s h1 h2 _ _ _ => q _ H' (s1.trans s) (.tup h1 h2)
            | retF gs =>
              rw [es] at e
              dsimp only at e
              split at e
              · rename_i sc
                cases e
                exact fun p xs H' s n h2 h3 => q _ H' (s1.trans s) ⟨p, xs, rfl, s1.free n, h2, DpAll.scalar sc h3⟩
              · cases e
                intro p xs H' s n h2 h3
                have np : ¬ Z p := fun z => I1.live p z n
                exact q _ H' (s1.trans s) (.lst (Rd.of (ze np h2)) (DpAll.same (vd (zd.refl _) fun _ h => .inl (.inl h)) h3))
      · cases e
end
section
variable {X : Cx} {Cl : Nat → Addr} {W : WX} {K : PySem.W.Frag}
abbrev W0 : WX := fun _ _ _ _ => False
@[simp] def noOwn (ρ : jc) (vs : List Nat) : Bool := vs.all fun v => match ρ[v]? with
  | some (.own _) => false
  | some (.ownT _ _ _) => false
  | some (.yV _ _) => false
  | _ => true
@[simp] def ym (ρ : jc) : List Nat → jc
  | [] => ρ
  | v :: vs => (ym ρ vs).set v .un
def lcL (tt : FT) (fe : FE) (st : D → Option jc) : List D → Option (List D)
  | [] => some []
  | d :: r => match st d with
    | none => none
    | some ρ => match tt ρ with
      | some (.ok true) => match fe ρ with
        | some (.ok v) => match v.st with
          | some y => (lcL tt fe st r).map (y :: ·)
          | none => none
        | _ => none
      | some (.ok false) => lcL tt fe st r
      | _ => none
@[simp] def zz (vs : List Nat) (st : jc → D → Option jc) (it : FI) (tt : FT) (fe : FE) (ρ : jc) : Option (Except Er Val) := if noOwn ρ vs = true then match it ρ with
  | none => none
  | some (.error e) => some (.error e)
  | some (.ok ds) => match lcL tt fe (st (ym ρ vs)) ds with
    | some es => if yo es.length = true then some (.ok (.f es)) else none
    | none => none else none
theorem vai {σ : St} {ρ : jc} {i : Nat} {a : Addr} : ∀ {vs : List Nat}, qo (wipe σ vs) (ym ρ vs) i a → i ∉ vs ∧ qo σ ρ i a
  | [], h => ⟨by simp, h⟩
  | v :: vs, h => by
    unfold wipe ym at h
    have q := vai (qy (s := .un) (fun z => nomatch z) h)
    refine ⟨fun m => ?_, q.2⟩
    rcases List.mem_cons.mp m with e | m
    · subst e
      obtain ⟨s, h2, h3⟩ := h.slot
      rw [List.getElem?_set, if_pos rfl] at h2
      split at h2
      · cases h2; cases h3
      · cases h2
    · exact q.1 m
theorem xa3 {ρ : jc} {i : Nat} : ∀ {vs : List Nat}, i ∉ vs → (ym ρ vs)[i]? = ρ[i]?
  | [], _ => rfl
  | v :: vs, h => by
    have h1 : v ≠ i := fun e => h (by rw [e]; exact List.mem_cons_self)
    unfold ym
    rw [List.getElem?_set_ne h1]
    exact xa3 fun m => h (List.mem_cons_of_mem _ m)
theorem ka3 {σ : St} {i : Nat} : ∀ {vs : List Nat}, i ∉ vs → (wipe σ vs)[i]? = σ[i]?
  | [], _ => rfl
  | v :: vs, h => by
    have h1 : v ≠ i := fun e => h (by rw [e]; exact List.mem_cons_self)
    unfold wipe
    rw [List.getElem?_set_ne h1]
    exact ka3 fun m => h (List.mem_cons_of_mem _ m)
theorem qa4 (ρ : jc) : ∀ vs : List Nat, (ym ρ vs).length = ρ.length
  | [] => rfl
  | v :: vs => by unfold ym; rw [List.length_set, qa4 ρ vs]
theorem xcd {σ : St} {ρ : jc} {i : Nat} {a : Addr} {vs : List Nat} (h : noOwn ρ vs = true) (o : qo σ ρ i a) : qo (wipe σ vs) (ym ρ vs) i a := by
  have hn : i ∉ vs := fun m => by
    have q := List.all_eq_true.mp h i m
    rcases o with ⟨_, es, h2⟩ | ⟨_, es, h2⟩ | ⟨_, h2⟩
    · rw [h2] at q
      cases q
    · rw [h2] at q
      cases q
    · rw [h2] at q
      cases q
  unfold qo at o ⊢
  rw [ka3 hn, xa3 hn]
  exact o
theorem DI.blk {Z : Addr → Prop} {H1 H : Hp} {σ : St} {ρ : jc} {vs : List Nat} {L : Addr} {acc : List V} (I : DI K Cl Z H1 σ ρ) (hn : noOwn ρ vs = true) (s : Same Cl H1 H) (nL : H1 L = none) (hL : H L = some (.lst acc)) : DI K Cl (ZP Z L) H (wipe σ vs) (ym ρ vs) := by
  have I' := I.same s
  have hm : zd (hide H1 (Zo Z σ ρ)) (hide H (Zo (ZP Z L) (wipe σ vs) (ym ρ vs))) := xl s fun b hb => by
    rcases hb with (hb | rfl) | ⟨j, q⟩
    · exact .inl (.inl hb)
    · exact .inr nL
    · exact .inl (.inr ⟨j, (vai q).2⟩)
  refine ⟨by rw [qa4, wipe_length]; exact I.len, fun i j a h1 h2 => I.one i j a (vai h1).2 (vai h2).2, fun a ⟨j, q⟩ z => ?_, fun a z => ?_, fun i t e => ?_, I'.tb⟩
  · have q2 := (vai q).2
    rcases z with z | rfl
    · exact I.out a ⟨j, q2⟩ z
    · exact I.yaI ⟨j, q2⟩ nL
  · rcases z with z | rfl
    · exact I'.live a z
    · rw [hL]
      intro z; cases z
  · by_cases hi : i ∈ vs
    · have q : ∀ {vs : List Nat}, i ∈ vs → (ym ρ vs)[i]? = some t → t = .un := by
        intro vs
        induction vs with
        | nil => intro m; cases m
        | cons v vs ih =>
          intro m e
          unfold ym at e
          by_cases hv : v = i
          · subst hv
            rw [List.getElem?_set, if_pos rfl] at e
            split at e
            · exact (Option.some.inj e).symm
            · cases e
          · rw [List.getElem?_set_ne hv] at e
            rcases List.mem_cons.mp m with z | m
            · exact absurd z.symm hv
            · exact ih m e
      rw [q hi e]
      trivial
    · rw [xa3 hi] at e
      rw [ka3 hi]
      have q := I.slots i t e
      cases t with
      | un => trivial
      | dat d =>
        obtain ⟨v, e1, h1⟩ := q
        exact ⟨v, e1, Dp.same hm h1⟩
      | own ds =>
        obtain ⟨a, xs, e1, e2, h1⟩ := q
        exact ⟨a, xs, e1, s.at e2, DpAll.same hm h1⟩
      | err a dd j => exact ⟨q.1, s.at q.2⟩
      | ownT a k gs =>
        obtain ⟨T, e1, h1⟩ := q
        exact ⟨T, e1, h1.same hm fun _ z => s.at z⟩
      | pin a => exact q
      | ob k fs => exact z6.same hm q
      | yV a c =>
        obtain ⟨e1, u, e2, h1⟩ := q
        exact ⟨e1, u, s.yV h1 e2, h1.same hm⟩
structure LcT (K : PySem.W.Frag) (vs : List Nat) (g : TG) (st : jc → D → Option jc) : Prop where
  go : ∀ (Cl : Nat → Addr) (Z : Addr → Prop) (σ : St) (ρ ρ' : jc) (H : Hp) (v : V) (d : D) (Q : St → Hp → Prop), DI K Cl Z H (wipe σ vs) (ym ρ vs) → Dp K (hide H (Zo Z (wipe σ vs) (ym ρ vs))) v d → st (ym ρ vs) d = some ρ' →
    (∀ σ', wipe σ' vs = wipe σ vs → DI K Cl Z H σ' ρ' → zd (hide H (Zo Z (wipe σ vs) (ym ρ vs))) (hide H (Zo Z σ' ρ')) → (∀ b, Zo Z (wipe σ vs) (ym ρ vs) b → Zo Z σ' ρ' b) → Q σ' H) → g v (wipe σ vs) H Q
theorem kb9 {vs : List Nat} {g : TG} {st : jc → D → Option jc} {it : FI} {tt : FT} {fe : FE} {σ : St} {H : Hp} {Q : VK} (T : LcT K vs g st) (h : vM K Cl W (zz vs st it tt fe) σ H Q) : tLc (yc1 K Cl W it) g (za3 K Cl W0 tt) (vM K Cl W0 fe) vs σ H Q := by
  obtain ⟨Z, ρ, r, I, e, q⟩ := h
  unfold zz at e
  split at e
  · rename_i hno
    cases e1 : it ρ with
    | none => rw [e1] at e; cases e
    | some r1 =>
      rw [e1] at e
      refine ⟨Z, ρ, r1, I, e1, ?_⟩
      cases r1 with
      | error er => cases e; exact q
      | ok ds =>
        dsimp only at e
        intro J H1 s1 hJ L nL
        have I1 := I.same s1
        cases e2 : lcL tt fe (st (ym ρ vs)) ds with
        | none => rw [e2] at e; cases e
        | some es =>
          rw [e2] at e
          dsimp only at e
          split at e
          · rename_i hline
            cases e
            have hln := kA hline
            refine ⟨fun i m H' => ∃ acc as rest, H' L = some (.lst acc) ∧ Same Cl H1 H' ∧ DpAll K (hide H' (ZP (Zo Z σ ρ) L)) acc as ∧ lcL tt fe (st (ym ρ vs)) (ds.drop i) = some rest ∧ as ++ rest = es ∧ m = ds.length - i ∧ i ≤ ds.length,
              ⟨_, [], [], es, upd_same, jv nL, .nil, e2, rfl, rfl, Nat.zero_le _⟩, fun i m H' => ?_⟩
            rintro ⟨acc, as, rest, hL, s2, hacc, er, ea, rfl, hi⟩
            have hk : zd (hide H1 (Zo Z σ ρ)) (hide H' (ZP (Zo Z σ ρ) L)) := xl s2 fun b hb => by
              rcases hb with hb | rfl
              · exact .inl hb
              · exact .inr nL
            have hlive : ∀ b, ZP (Zo Z σ ρ) L b → H' b ≠ none := fun b hb => by
              rcases hb with hb | rfl
              · exact (I1.same s2).jZ hb
              · rw [hL]; intro z; cases z
            obtain ⟨go, stop, yld⟩ := hJ (ZP (Zo Z σ ρ) L) H' hk hlive
            by_cases hlt : i < ds.length
            · refine .inr ⟨go i hlt, fun H3 => ∃ acc as rest, H3 L = some (.lst acc) ∧ Same Cl H1 H3 ∧ DpAll K (hide H3 (ZP (Zo Z σ ρ) L)) acc as ∧ lcL tt fe (st (ym ρ vs)) (ds.drop (i + 1)) = some rest ∧ as ++ rest = es,
                fun H3 ⟨acc, as, rest, b1, b2, b3, b4, b5⟩ => ⟨ds.length - (i + 1), by omega, acc, as, rest, b1, b2, b3, b4, b5, rfl, hlt⟩, fun x H'' y => ?_⟩
              have hd : ds[i]? = some ds[i] := List.getElem?_eq_getElem hlt
              obtain ⟨s3', hx⟩ := yld i x H'' _ y hd
              have s3 := s3' Cl
              rw [List.drop_eq_getElem_cons hlt] at er
              unfold lcL at er
              cases est : st (ym ρ vs) ds[i] with
              | none => rw [est] at er; cases er
              | some ρ' =>
                rw [est] at er
                dsimp only at er
                have B := I1.blk (vs := vs) hno (s2.trans s3) nL (s3.at hL)
                have zeq : ∀ b, Zo (ZP Z L) (wipe σ vs) (ym ρ vs) b → ZP (Zo Z σ ρ) L b := fun b hb => by
                  rcases hb with (hb | hb) | ⟨j, z⟩
                  · exact .inl (.inl hb)
                  · exact .inr hb
                  · exact .inl (.inr ⟨j, (vai z).2⟩)
                have zeq2 : ∀ b, ZP (Zo Z σ ρ) L b → Zo (ZP Z L) (wipe σ vs) (ym ρ vs) b := fun b hb => by
                  rcases hb with (hb | ⟨j, z⟩) | hb
                  · exact .inl (.inl hb)
                  · exact .inr ⟨j, xcd hno z⟩
                  · exact .inl (.inr hb)
                refine T.go Cl (ZP Z L) σ ρ ρ' H'' x ds[i] _ B (Dp.same (vd (zd.refl _) fun b hb => .inl (zeq b hb)) hx) est fun σ' hw B' hs' hz' => ⟨hw, ?_⟩
                have up4 : ∀ H4, Same Cl H'' H4 → Same Cl H1 H4 := fun H4 s4 => s2.trans (s3.trans s4)
                have acc4 : ∀ H4, Same Cl H'' H4 → DpAll K (hide H4 (ZP (Zo Z σ ρ) L)) acc as := fun H4 s4 => DpAll.same (xl (s3.trans s4) fun _ h => .inl h) hacc
                cases ett : tt ρ' with
                | none => rw [ett] at er; cases er
                | some rt =>
                  rw [ett] at er
                  cases rt with
                  | error _ => cases er
                  | ok b =>
                    refine wZ B' ett (fun er z => by cases z) fun b1 H3 eb s4 B3 => ?_
                    cases eb
                    cases b with
                    | false =>
                      dsimp only at er
                      rw [if_neg Bool.false_ne_true]
                      exact ⟨acc, as, rest, s4.at (s3.at hL), up4 _ s4, acc4 _ s4, er, ea⟩
                    | true =>
                      dsimp only at er
                      rw [if_pos rfl]
                      cases efe : fe ρ' with
                      | none => rw [efe] at er; cases er
                      | some rf =>
                        rw [efe] at er
                        cases rf with
                        | error _ => cases er
                        | ok v =>
                          dsimp only at er
                          refine qK B3 efe (fun er z => by cases z) fun v1 y H4 ev s5 hv B4 => ?_
                          cases ev
                          cases est : v.st with
                          | none => rw [est] at er; cases er
                          | some yd =>
                            rw [est] at er
                            dsimp only at er
                            cases el : lcL tt fe (st (ym ρ vs)) (ds.drop (i + 1)) with
                            | none => rw [el] at er; cases er
                            | some rest' =>
                              rw [el] at er
                              cases er
                              have s45 := s4.trans s5
                              have hL4 := s45.at (s3.at hL)
                              have hy := hv.stab B3 est
                              have hacc4 := acc4 _ s45
                              refine ⟨acc, hL4, ?_, ?_⟩
                              · have h1 := hacc4.length
                                have h2 := congrArg List.length ea
                                rw [List.length_append, List.length_cons] at h2
                                omega
                              · have hin : ∀ {H5 : Hp} , (∀ b, b ≠ L → H5 b = H4 b) → zd (hide H4 (ZP (Zo Z σ ρ) L)) (hide H5 (ZP (Zo Z σ ρ) L)) := fun {H5} k b o e _ => by
                                  obtain ⟨n, e1⟩ := zi e
                                  exact ze n (by rw [k b fun z => n (.inr z)]; exact e1)
                                have k5 : ∀ b, b ≠ L → upd H4 L (.lst (acc ++ [y])) b = H4 b := fun b hb => upd_ne hb
                                have hy2 : Dp K (hide H4 (ZP (Zo Z σ ρ) L)) y yd := Dp.same (vd (zd.refl _) fun b hb => .inl (hz' b (zeq2 b hb))) hy
                                refine ⟨acc ++ [y], as ++ [yd], rest', upd_same, (up4 _ s45).over nL hL4, DpAll.append (DpAll.same (hin k5) hacc4) (.cons (Dp.same (hin k5) hy2) .nil), rfl, by rw [← ea, List.append_assoc]; rfl⟩
            · have hie : i = ds.length := by omega
              subst hie
              rw [List.drop_length] at er
              cases er
              rw [List.append_nil] at ea
              subst ea
              exact .inl ⟨stop _ (Nat.le_refl _), q _ H' (s1.trans s2) ⟨L, acc, rfl, s1.free nL, hL, hacc⟩⟩
          · cases e
  · cases e
def wF (i : Nat) : jc → D → Option jc := fun ρ d => some (ρ.set i (.dat d))
theorem xb8 {Z : Addr → Prop} {σ : St} {ρ : jc} {i : Nat} {x : Option V} {d : D} (hn : ∀ s, ρ[i]? = some s → ¬ s.j6) (b : Addr) (h : Zo Z σ ρ b) : Zo Z (σ.set i x) (ρ.set i (.dat d)) b := by
  rcases h with h | ⟨j, h1⟩
  · exact .inl h
  · have hj : i ≠ j := fun e => by
      obtain ⟨s, e1, e2⟩ := h1.slot
      exact hn s (e ▸ e1) e2
    refine .inr ⟨j, ?_⟩
    unfold qo at h1 ⊢
    rw [List.getElem?_set_ne hj, List.getElem?_set_ne hj]
    exact h1
theorem xbe {ρ : jc} {i : Nat} : ∀ {vs : List Nat}, i ∈ vs → ∀ s, (ym ρ vs)[i]? = some s → ¬ s.j6
  | v :: vs, m, s, e => by
    unfold ym at e
    by_cases hv : v = i
    · subst hv
      rw [List.getElem?_set, if_pos rfl] at e
      split at e
      · cases e
        exact fun z => nomatch z
      · cases e
    · rw [List.getElem?_set_ne hv] at e
      rcases List.mem_cons.mp m with z | m
      · exact absurd z.symm hv
      · exact xbe m s e
theorem yaT {i : Nat} : LcT K [i] (gName i) (wF i) := ⟨fun Cl Z σ ρ ρ' H v d Q B hd e q => by
  cases e
  refine q _ ?_ (B.yz hd) yaz (xb8 (xbe (by simp)))
  show (((σ.set i none).set i (some v)).set i none) = σ.set i none
  rw [List.set_set, List.set_set]⟩
theorem ycr {σ : St} {H : Hp} {Q : Bool → Hp → Prop} (h : za3 K Cl W (fun _ => some (.ok true)) σ H Q) : tYes σ H Q := by
  obtain ⟨Z, ρ, r, I, e, q⟩ := h
  cases e
  exact q H (Same.refl _)
theorem PTs.imp {X : Cx} {ifs : List Expr} {t t' : TT} (h : PTs X ifs t) (i : ∀ σ H Q, t' σ H Q → t σ H Q) : PTs X ifs t' := ⟨fun pins s σ H Q I q => h.run pins s σ H Q I (i σ H Q q)⟩
def DTs (X : Cx) (Cl : Nat → Addr) (W : WX) (ifs : List Expr) (f : FT) : Prop := PTs X ifs (za3 X.K Cl W f)
theorem qac : DTs X Cl W [] (fun _ => some (.ok true)) := PTs.imp pts_nil fun σ H Q h => ycr h
theorem zbp {c : Expr} {f : FT} (h : DT X Cl W c f) : DTs X Cl W [c] f := pts_one h
variable {elt tg iter : Expr} {ifs : List Expr} {scope : Scope} {own : List (Str × Nat)} {pos : Pos} {it : FI} {g : TG} {tt : FT} {fe : FE} {vs : List Nat} {st : jc → D → Option jc}
theorem jaJ (hc : X.calm = true) (hN : X.N.Nodup) (T : LcT X.K vs g st) (hi : DIt X Cl W tg iter it) (ok : BlkOk X.N X.env.scope scope own)
    (hg : ∀ (s : Shared) (H : Hp) (C : Addr) (cl : List (Str × Addr)) (fp : List Addr), PG (X.blk s H scope (compEnvC scope cl C X.env) fp) tg g) (ht : ∀ (s : Shared) (H : Hp) (C : Addr) (cl : List (Str × Addr)) (fp : List Addr), DTs (X.blk s H scope (compEnvC scope cl C X.env) fp) Cl W0 ifs tt)
    (he : ∀ (s : Shared) (H : Hp) (C : Addr) (cl : List (Str × Addr)) (fp : List Addr), DE (X.blk s H scope (compEnvC scope cl C X.env) fp) Cl W0 elt fe) (hv : own.map (·.2) = vs := by rfl) (hs : ∀ x, foldedSetIterable iter X.env x = pure x := by intro _; rfl) :
    DE X Cl W (.ListComp elt [⟨tg, iter, ifs, 0⟩] scope pos) (zz vs st it tt fe) := PE.imp (pe_lc (tt := za3 X.K Cl W0 tt) (te := vM X.K Cl W0 fe) hc hN hi ok hg ht he hs) fun σ H Q h => by
  rw [hv]
  exact kb9 T h
theorem xbf {i : Nat} {y : Str} {py spos : Pos} (hc : X.calm = true) (hN : X.N.Nodup) (T : LcT X.K vs g st) (hi : DIt X Cl W tg iter it) (ok : BlkOk X.N X.env.scope scope own)
    (hg : ∀ (s : Shared) (H : Hp) (C : Addr) (cl : List (Str × Addr)) (fp : List Addr), PG (X.blk s H scope (compEnvC scope cl C X.env) fp) tg g) (ht : ∀ (s : Shared) (H : Hp) (C : Addr) (cl : List (Str × Addr)) (fp : List Addr), DTs (X.blk s H scope (compEnvC scope cl C X.env) fp) Cl W0 ifs tt)
    (he : ∀ (s : Shared) (H : Hp) (C : Addr) (cl : List (Str × Addr)) (fp : List Addr), DE (X.blk s H scope (compEnvC scope cl C X.env) fp) Cl W0 elt fe) (hsw : swapsWith (.ListComp elt [⟨tg, iter, ifs, 0⟩] scope pos) (some (.Name y py)) spos.line X.env = pure true) (hy : X.N[i]? = some y := by rfl) (hyl : X.env.scope.names.lookup y = some .local := by rfl) (hv : own.map (·.2) = vs := by rfl) (hs : ∀ x, foldedSetIterable iter X.env x = pure x := by intro _; rfl) :
    DS X Cl W (.Assign [.Name y py] (.ListComp elt [⟨tg, iter, ifs, 0⟩] scope pos) spos) (yc i (zz vs st it tt fe)) := PS.imp (ps_setLc (tt := za3 X.K Cl W0 tt) (te := vM X.K Cl W0 fe) hc hN hy hyl hsw hi ok hg ht he hs) fun D σ H h => by
  have h1 := qbJ h
  rw [hv]
  exact kb9 T h1
end
section
variable {X : Cx} {Cl : Nat → Addr} {W : WX} {K : PySem.W.Frag} {e : Expr} {f : FE} {pos : Pos}
@[simp] def jz (a b : Val) : Option Val := (gI (fun i j => .bool (decide (i < j))) a b).or (gS (fun i j => .bool (decide (i.cps.toList < j.cps.toList))) a b)
@[simp] def zcB (a b : Val) : Option Val := (gI (fun i j => .bool (decide (i ≤ j))) a b).or (gS (fun i j => .bool (!decide (j.cps.toList < i.cps.toList))) a b)
@[simp] def wz (a b : Val) : Option Val := (gI (fun i j => .bool (decide (j < i))) a b).or (gS (fun i j => .bool (decide (j.cps.toList < i.cps.toList))) a b)
@[simp] def vO (a b : Val) : Option Val := (gI (fun i j => .bool (decide (j ≤ i))) a b).or (gS (fun i j => .bool (!decide (i.cps.toList < j.cps.toList))) a b)
def rX (g : Int → Int → V) (h : Str → Str → V) : R2 := fun x y H Q => rI0 g x y H Q ∨ (∃ i j, x = .str i ∧ y = .str j ∧ Q (h i j) H)
theorem qM : OpR X (compareOp .Lt) (rX (fun i j => .bl (decide (i < j))) fun i j => .bl (decide (i.cps.toList < j.cps.toList))) := op_lt.or op_lt_str
theorem yO : OpR X (compareOp .Gt) (rX (fun i j => .bl (decide (j < i))) fun i j => .bl (decide (j.cps.toList < i.cps.toList))) := op_gt.or op_gt_str
theorem jaA : OpR X (compareOp .GtE) (rX (fun i j => .bl (decide (j ≤ i))) fun i j => .bl (!decide (i.cps.toList < j.cps.toList))) := op_ge.or op_ge_str
theorem zM : w6 K (rX (fun i j => .bl (decide (i < j))) fun i j => .bl (decide (i.cps.toList < j.cps.toList))) jz := (kbe fun i j _ => .bl _).or (zcA (g := fun i j => .bl (decide (i.cps.toList < j.cps.toList))) fun i j _ => .bl _)
theorem xO : w6 K (rX (fun i j => .bl (decide (j < i))) fun i j => .bl (decide (j.cps.toList < i.cps.toList))) wz := (kbe fun i j _ => .bl _).or (zcA (g := fun i j => .bl (decide (j.cps.toList < i.cps.toList))) fun i j _ => .bl _)
theorem waA : w6 K (rX (fun i j => .bl (decide (j ≤ i))) fun i j => .bl (!decide (i.cps.toList < j.cps.toList))) vO := (kbe fun i j _ => .bl _).or (zcA (g := fun i j => .bl (!decide (i.cps.toList < j.cps.toList))) fun i j _ => .bl _)
def qD (g : FG) (f : FE) : FS := sE f fun v ρ => match v.st with
  | some d => (g d ρ).map .nx
  | none => none
theorem y6 {tg : Expr} {g : FG} (hg : DG X Cl tg g) (he : DE X Cl W e f) (hs : swapsWithSole [tg] e pos.line X.env = pure false := by rfl) (hw : swappedStores [tg] e X.env = pure none := by rfl)
    (h1 : (assignEach [tg] X.env).map (·.2) = [assign tg X.env] := by rfl) : DS X Cl W (.Assign [tg] e pos) (qD g f) := PS.imp (ps_asg he hg hs hw h1) fun D σ H ⟨H0, Z, ρ, o, I, e, q⟩ => by
  refine kab I e q fun v x H1 _ h2 s1 hv I1 => ?_
  cases e1 : v.st with
  | none => rw [e1] at h2; cases h2
  | some d =>
    rw [e1] at h2
    dsimp only at h2
    cases e2 : g d ρ with
    | none => rw [e2] at h2; cases h2
    | some ρ' =>
      rw [e2] at h2
      cases h2
      exact ⟨_, Z, ρ, d, ρ', I1, hv.stab I.di e1, e2, fun σ' I' => q _ _ I'⟩
theorem zdi {p : Addr} {dd : Option Addr} {its : Array Value} {n : Nat} {ss : Array (Option Value)} {ns : List Int} (h : K.lookup p = some ⟨.type "tuple", dd, .seq its n, ss⟩) (hv : Vals (ns.map V.int) its.toList) (hl : yo its.size = true := by rfl) : ∀ H, DL.Dp K H (.ref p) (.tuple (ns.map .int)) :=
  fun H => .tup (.inr ⟨_, its, n, h, rfl, rfl, kA hl, hv⟩) (DpAll.of_ints ns)
def yc2 (x : D) (ds : List D) : Option Nat := ds.findIdx? fun d => eqV (toV d) (toV x)
@[simp] def xbJ (a b : Val) : Option Val := match a.d with
  | .list ds => if (vj b.d && ds.all vj) = true then (yc2 b.d ds).map fun j => .s (.int (j : Int)) else none
  | _ => none
def eLM (g : Val → Val → Option Val) (fa fb : FE) : FE := bE fa fun a ρ => match a.d with
  | .list _ => bE fb (fun b _ => (g a b).map .ok) ρ
  | _ => none
theorem jcB {fa fb : FE} {c : Expr} (hp : PE X c (tBM X.K "list" (rIndex X.K) (vM X.K Cl W fa) (tCons (vM X.K Cl W fb) tNil))) : DE X Cl W c (eLM xbJ fa fb) := PE.imp hp fun σ H Q ⟨Z, ρ, r1, I, e, q⟩ => by
  refine xab I e q fun v x H1 _ h1 s1 hv I1 q1 => ?_
  split at h1
  · rename_i ds0 ed0
    have hl : ∀ {H2 : Hp}, Same Cl H1 H2 → ∃ a ys, x = .ref a ∧ Rd H2 a (.lst ys) ∧ DpAll X.K H2 ys ds0 := fun {H2} s2 => by
      have h2 := Dp.same kf ((hv.same s2).dp I)
      rw [ed0] at h2
      exact h2.lst_inv
    obtain ⟨a, ys, rfl, h2, h3⟩ := hl (Same.refl _)
    refine ⟨.inl ⟨rfl, ys, .inl h2⟩, xab I1 h1 q1 fun u y H2 _ h4 s2 hu I2 q2 => ?_⟩
    obtain ⟨a', ys', ea, h5, h6⟩ := hl s2
    cases ea
    unfold xbJ at h4
    split at h4
    · rename_i ds ed
      rw [ed0] at ed
      cases ed
      split at h4
      · rename_i sc
        obtain ⟨sc1, sc2⟩ := Bool.and_eq_true_iff.mp sc
        cases e2 : yc2 u.d ds0 with
        | none => rw [e2] at h4; cases h4
        | some j =>
          rw [e2] at h4
          cases h4
          obtain ⟨e3, e4⟩ := h6.toV sc2
          have hy := Dp.same kf (hu.dp I1)
          have ey := hy.toV sc1
          obtain ⟨hj, ej, ne⟩ := List.findIdx?_eq_some_iff_getElem.mp e2
          subst e3
          refine ⟨a, _, y, j, toV ds0[j], rfl, rfl, .inl h5, hy.flat sc1, e4, by rw [List.getElem?_map, List.getElem?_eq_getElem hj]; rfl, by rw [ey]; exact ej, fun m z hm hz => ?_, q2 _ H2 (Same.refl _) (.int _)⟩
          rw [List.getElem?_map, List.getElem?_eq_getElem (Nat.lt_trans hm hj)] at hz
          cases hz
          rw [ey]
          exact Bool.eq_false_iff.mpr (ne m hm)
      · cases h4
    · cases h4
  · cases h1
section
variable {g : Val → Val → Option Val} {h : Val → Option Val} {fa fb fe : FE} {i : Nat} {ρ : jc} {d : D} {gs : FGs} {tg : FG}
@[simp] theorem qdc : e2 g fa fb ρ = bE fa (fun a => bE fb fun b _ => (g a b).map .ok) ρ := rfl
@[simp] theorem zdc : e1 h fa ρ = bE fa (fun a _ => (h a).map .ok) ρ := rfl
@[simp] theorem zdF : eLM g fa fb ρ = bE fa (fun a ρ => match a.d with
  | .list _ => bE fb (fun b _ => (g a b).map .ok) ρ
  | _ => none) ρ := rfl
@[simp] theorem jdi : vdb fa fb ρ = bE fa (fun v ρ => match v.d with
  | .bool true => fb ρ
  | .bool false => ok (.bool false)
  | _ => none) ρ := rfl
@[simp] theorem vdC : ydh fa fb ρ = bE fa (fun v ρ => match v.d with
  | .bool false => fb ρ
  | .bool true => ok (.bool true)
  | _ => none) ρ := rfl
@[simp] theorem zca : yc i fa ρ = sE fa (fun v ρ => v.st.map fun d => .nx (ρ.set i (.dat d))) ρ := rfl
@[simp] theorem wcB : zS i fa ρ = sE fa (fun v ρ => match v with
  | .f ds => some (.nx (ρ.set i (.own ds)))
  | _ => none) ρ := rfl
@[simp] theorem wdi : ydb fa ρ = sE fa (fun _ ρ => some (.nx ρ)) ρ := rfl
@[simp] theorem jbp : ji fa ρ = sE fa (fun v _ => match v with
  | .s d => some (.ret d)
  | .m d => some (.ret d)
  | .b ds => some (.retF ds)
  | .f ds => some (.retF ds)) ρ := rfl
@[simp] theorem xcU : xF i fa ρ = yad i (fun ds => sE fa fun v ρ => match v.st with
  | some d => if yo (ds.length + 1) = true then some (.nx (ρ.set i (.own (ds ++ [d])))) else none
  | none => none) ρ := rfl
@[simp] theorem kcU : yaq i fa ρ = yad i (fun ds => sE fa fun v ρ => match v.items with
  | some es => if yo (ds.length + es.length) = true then some (.nx (ρ.set i (.own (ds ++ es)))) else none
  | none => none) ρ := rfl
@[simp] theorem qcV : zbJ i ρ = yad i (fun ds ρ => if ds.isEmpty = true then none else some (.nx (ρ.set i (.own ds.dropLast)))) ρ := rfl
@[simp] theorem ydC : xdh i fa fe ρ = sE fe (fun v => yad i fun ds => sE fa fun k ρ => match k.d, v.st with
  | .int j, some d => (ixN ds.length j).map fun n => .nx (ρ.set i (.own (ds.set n d)))
  | _, _ => none) ρ := rfl
@[simp] theorem kdR : gN i d ρ = some (ρ.set i (.dat d)) := rfl
@[simp] theorem vdi : ju [] ρ = some ρ := rfl
@[simp] theorem vde {r : List D} : qe i gs (d :: r) ρ = gs r (ρ.set i (.dat d)) := rfl
@[simp] theorem qdS {n : Nat} {ds : List D} : gT n gs (.tuple ds) ρ = if ds.length = n then gs ds ρ else none := rfl
@[simp] theorem kbJ {n k : Nat} {f : FS} {ds : List D} : wC n k f ds = match f (ds.map .dat ++ List.replicate (k - n) .un) with
  | some (.nx _) => some (.ret .none)
  | some (.ret d) => some (.ret d)
  | some (.retF ds) => some (.retF ds)
  | some (.retX ds k) => some (.retX ds k)
  | some (.exc _ c i) => some (.exc c i)
  | _ => none := rfl
@[simp] theorem jdF : wF i ρ d = some (ρ.set i (.dat d)) := rfl
@[simp] theorem jca : qD tg fa ρ = sE fa (fun v ρ => match v.st with
  | some d => (tg d ρ).map .nx
  | none => none) ρ := rfl
end
def zce (K : PySem.W.Frag) : Sp := fun vs H Q _ => ∃ (a : Addr) (ns : List Int), vs = [.ref a] ∧ SqL K H a (ns.map V.int) ∧ ns.length ≤ 63 ∧ ∀ H', Q (.bl true) H'
theorem kc2 {Cl : Nat → Addr} {P : Program} {w : World} {mg : Str → Option Value} {base : Heap} {CX : CXT} {k : Nat} {fa : Addr} {fd : FuncData} {ps : List Str} {F : DF} (h : ∀ ns : List Int, ns.length ≤ 63 → F [qW ns] = some (.ret (.bool true))) (G : FnOk P w K mg base CX k fa fd ps (qE K Cl 1 F)) (hz : NoT Cl := by exact ⟨rfl, rfl, rfl, rfl⟩) : FnOk P w K mg base CX k fa fd ps (zce K) :=
  G.imp fun vs H Q E ⟨a, ns, e, hs, hl, q⟩ => by
    subst e
    refine ⟨fun _ => False, [qW ns], _, ⟨fun _ z => z.elim, .none hz _⟩, .cons (.qW (SqL.zu (fun b o e _ => ze id e) hs)) .nil, rfl, h ns hl, fun v H' s hv => ?_⟩
    rw [hv.xa1]
    exact q H'
theorem zcV {P : Program} {w : World} {outer : List Env} {H : Hp} {s s' : Shared} {e : Value} (h : L2.CX P w outer H s (fun _ _ _ => False) e s') : False := by
  obtain ⟨_, _, _, _, _, _, _, _, _, _, _, _, z⟩ := h
  exact z
end
structure ExT (K : PySem.W.Frag) (mg : Str → Option Value) (x : Str) (C fI : Addr) : Prop where
  g : mg x = some (.ref C)
  oex : OexC K C
  no : PySem.W.findIn K (.ref C) "at" = some none
  iC : PySem.W.findIn K (.ref C) "__init__" = some (some (.ref fI))
  xf : XfC K C
structure InT (K : PySem.W.Frag) (q : Str) (st : Stmt) (fI : Addr) (fd : FuncData) : Prop where
  F : Fun K "__init__" q st fI fd
  tI : PySem.W.typeIn K (.ref fI) = some (.type "function")
  b : Binds K fd ["self", "at"] []
def qc3 (K : PySem.W.Frag) : Sp := fun vs H Q _ => ∃ (a C : Addr) (y : V), vs = [.ref a, y] ∧ OexC K C ∧ PySem.W.findIn K (.ref C) "at" = some none ∧ H a = some (exo a C none) ∧
  ∀ dx, H dx = none → dx ≠ a → Q .non (upd (upd H dx (exd dx [("at", y)])) a (exo a C (some dx)))
section
variable {X : Cx} {Cl : Nat → Addr} {W : WX} {K : PySem.W.Frag} {e : Expr} {f : FE} {pos : Pos}
def kj (c : Nat) (f : FE) : FS := sE f fun v ρ => match v.d with
  | .int i => some (.exc ρ c i)
  | _ => none
@[simp] theorem zcs {c : Nat} {ρ : jc} : kj c f ρ = sE f (fun v ρ => match v.d with
  | .int i => some (.exc ρ c i)
  | _ => none) ρ := rfl
theorem xt {c : Nat} {x q : Str} {fI : Addr} {fd : FuncData} {st : Stmt} {p pos' : Pos} (T : ExT X.K X.mg x (Cl c) fI) (N : InT X.K q st fI fd) (F1 : FnOk X.prog X.w X.K X.mg X.base (L2.CX X.prog X.w) 1 fI fd ["self", "at"] (qc3 X.K)) (tk : Takes X W) (hr : Room 2 X.A) (he : DE X Cl W e f)
    (hc : X.calm = true := by rfl) (hg : Gl X x := by rfl) (hdb : (x == ("__debug__" : Str)) = false := by decide) (hs : starEach (e :: []) X.env = (false, eval e X.env) :: starEach [] X.env := by rfl) (hpl : (backTo pos (starEach [] X.env)).any (·.1) = false := by rfl) :
    DS X Cl W (.Raise (some (.Call (.Name x p) [e] [] pos)) none pos') (kj c f) :=
  PS.imp (ps_raise hc tk (pmk_oex (dvs := []) (ds := []) T.oex T.iC N.tI F1 hr N.b .nil passL hg T.g (pa_cons he pa_nil hs) hdb hs hpl)) fun D σ H ⟨H0, Z, ρ, o, I, e, q⟩ => by
    refine kab I e q fun v y H1 _ h1 s1 hv I1 => ?_
    split at h1
    · rename_i i ei
      cases h1
      have ey := hv.int_inv I.di ei
      subst ey
      refine ⟨by show 1 ≤ 1000; decide, fun a na => ⟨a, Cl c, .int i, rfl, T.oex, T.no, upd_same, fun dx nd hne => ⟨rfl, dx, [("at", .int i)], ?_, ?_, ?_, ?_⟩⟩⟩
      · exact upd_same
      · rw [upd_ne hne, upd_same]
      · rw [upd_ne hne] at nd
        exact nd
      · rw [upd_ne hne] at nd
        refine q dx σ _ (I1.zu (.of (fun b o e => ?_) fun b o xs e => ?_)) upd_same
        · have n1 := ne_of_none e nd
          have n2 := ne_of_none e na
          rw [upd_ne n1, del_ne n2, upd_ne n2, upd_ne n1, upd_ne n2]
          exact e
        by_cases b1 : b = dx
        · rw [b1, upd_same] at e
          cases e
        rw [upd_ne b1] at e
        by_cases b2 : b = a
        · rw [b2, del_same] at e
          cases e
        rw [del_ne b2, upd_ne b2, upd_ne b1, upd_ne b2] at e
        exact e
    · cases h1
structure vL (X : Cx) (pins : List (Addr × Obj)) (a : Addr) (B : Heap) (sI : Shared) (σ : St) (H : Hp) (cls : Value) (d : Option Addr) (s : Shared) : Prop where
  inv : Inv X pins σ H sI
  ground : ∀ b o, sI.heap.get? b = some o → b ∉ frs X.stack → B.get? b = some o
  slots : sI.heap.UpToSlots s.heap
  fly : HandSPX.FlyingZ B (X.env :: X.outer) a (Zc cls d) s.heap
  free : H a = none
  os : s.os = sI.os
  bare : AllBare s.gens
def jai (X : Cx) (hds : List ExceptHandler) (D : Ends) (wish : WX) : Prop := ∀ (pins : List (Addr × Obj)) (a : Addr) (B : Heap) (sI : Shared) (σ : St) (H : Hp) (cls : Value) (d : Option Addr) (s : Shared), vL X pins a B sI σ H cls d s → wish cls d σ H →
  wpAny (model X.prog X.w) X.A (handleBy (.ref a) X.env hds) (SP X pins D) X.xe s
theorem vL.now {pins : List (Addr × Obj)} {a : Addr} {B : Heap} {sI : Shared} {σ : St} {H : Hp} {cls : Value} {d : Option Addr} {s : Shared} (c : vL X pins a B sI σ H cls d s) : Inv X pins σ H s := c.inv.landed c.ground c.fly.1 c.slots c.os c.bare
theorem vL.out {pins : List (Addr × Obj)} {a : Addr} {B : Heap} {sI : Shared} {σ : St} {H : Hp} {cls : Value} {d : Option Addr} {s : Shared} (c : vL X pins a B sI σ H cls d s) (hf : X.env.frame = some X.env.locals) : a ≠ X.env.locals ∧ a ∉ X.fs := by
  obtain ⟨ob, fv, hob, _, hdat⟩ := c.fly.there
  have apart : a ∉ frs (X.env :: X.outer) := fun m => by
    obtain ⟨_, o2, e2, nf⟩ := c.fly.2.2.1.mem m
    rw [hob] at e2
    cases e2
    exact nf _ hdat
  refine ⟨fun z => apart (List.mem_filterMap.mpr ⟨X.env, List.mem_cons_self, by rw [hf, z]⟩), fun m => ?_⟩
  obtain ⟨en, men, q⟩ := List.mem_filterMap.mp m
  exact apart (List.mem_filterMap.mpr ⟨en, List.mem_cons_of_mem _ men, q⟩)
theorem wbY {D : Ends} (hs : X.stack = X.env :: X.outer) (hf : X.env.frame = some X.env.locals) (tk : Takes X W) : jai X [] D W := fun pins a B sI σ H cls d s c hw => by
  refine wpAny_handleBy_nil ?_
  obtain ⟨_, _, _, ob, fv, T, _, _, hob, _, hdat, h1, _⟩ := id c.fly
  unfold PySem.passOn
  have fin : wpAny (model X.prog X.w) X.A (setFlight (.ref a) X.env.frame) (fun _ s4 => wpAny (model X.prog X.w) X.A (throw (.ref a) : Sem Flow) (SP X pins D) X.xe s4) X.xe s := by
    rw [hf]
    refine HandSPX.setFlight_upZ c.fly fun h4 held more => wpAny_throw (tk _ _ ?_)
    exact ⟨a, B, sI, pins, σ, H, cls, d, rfl, c.inv, c.ground, c.slots.trans more, .inr (.inr (by rw [hs]; exact held)), c.free, c.os, c.bare, hw⟩
  refine wpAny_bind (wpAny_field hob hdat h1 ?_)
  rw [if_neg (show ¬ ((Value.ref T == Value.none) = true) by simp)]
  first
    | exact wpAny_bind (wpAny_pure (wpAny_bind fin))
    | exact wpAny_bind fin
def wcF (test : Value → Bool → Prop) (yes : Addr → Value → Option Addr → TS) (D : Ends) (rest : WX) : WX := fun cls d σ H => ∃ b, test cls b ∧ (b = true → ∀ a, H a = none → yes a cls d D σ H) ∧ (b = false → rest cls d σ H)
theorem vL.suite {pins : List (Addr × Obj)} {a : Addr} {B : Heap} {sI : Shared} {σ : St} {H : Hp} {cls : Value} {d : Option Addr} {s : Shared} (c : vL X pins a B sI σ H cls d s) (hf : X.env.frame = some X.env.locals) :
    ∃ oe, s.heap.get? a = some oe ∧ Zc cls d oe ∧ (∃ vs, oe.data = .fields vs) ∧ Inv (X.suite a ((a, oe) :: (X.pn ++ pins))) [] σ H s := by
  obtain ⟨ob, fv, hob, hz, hdat⟩ := c.fly.there
  obtain ⟨n1, n2⟩ := c.out hf
  exact ⟨ob, hob, hz, ⟨fv, hdat⟩, c.now.suite hob hdat c.free n1 n2⟩
theorem vL.again {pins : List (Addr × Obj)} {a : Addr} {B : Heap} {sI : Shared} {σ : St} {H : Hp} {cls : Value} {d : Option Addr} {s : Shared} {h4 : Heap} (c : vL X pins a B sI σ H cls d s) (fl : HandSPX.FlyingZ B (X.env :: X.outer) a (Zc cls d) h4) (up : s.heap.UpToSlots h4) : vL X pins a B sI σ H cls d { s with heap := h4 } :=
  ⟨c.inv, c.ground, c.slots.trans up, fl, c.free, c.os, c.bare⟩
theorem vbY {D : Ends} {x : Str} {c : Value} {b0 : Stmt} {suite : List Stmt} {np pos' : Pos} {hds : List ExceptHandler} {rest : WX} {ts : Addr → Value → Option Addr → TS} (ok : X.Ok) (hf : X.env.frame = some X.env.locals) (hc : Names X x c)
    (hsu : ∀ (a : Addr) (oe : Obj) (cls : Value) (d : Option Addr) (pn : List (Addr × Obj)), Zc cls d oe → (∃ vs, oe.data = .fields vs) → PSs (X.suite a ((a, oe) :: pn)) (b0 :: suite) (ts a cls d)) (hr : jai X hds D rest) :
    jai X (.ExceptHandler (some (.Name x np)) none (b0 :: suite) pos' :: hds) D (wcF (fun cls b => PySem.W.exmOne X.K cls c = some b) ts D rest) := fun pins a B sI σ H cls d s ca ⟨b, hb, yes, no⟩ => by
  obtain ⟨ob, hob, hz, hdat, S⟩ := ca.suite hf
  refine wpAny_handleBy_cons (codeAny_handlers_test ?_) (by intro q; cases q)
  have look : PySem.W.Looks (model X.prog X.w) s.heap (typeOf (.ref a)) cls := fun A Q E s' k q => wpAny_typeOf_ref (k _ _ hob) (by rw [hz.1]; exact q)
  have here := PySem.W.exm_one (M := model X.prog X.w) ca.now.kIn look hb
  have named : ∀ {Q : Value → Shared → Prop} {E : Value → Shared → Prop}, Q c s → wpAny (model X.prog X.w) (X.A.mark (some (.ref a))) (eval (.Name x np) X.env) Q E s := fun {Q E} q => by
    obtain ⟨hg, hdbg, hm | ⟨hm, hv, hnn⟩⟩ := hc
    · exact ld_glob (X := X.suite a ((a, ob) :: (X.pn ++ pins))) S hg hm q hdbg
    · exact ld_blt (X := X.suite a ((a, ob) :: (X.pn ++ pins))) S hg hm hv q hnn hdbg
  refine named (here.here ?_)
  cases b with
  | false => exact hr pins a B sI σ H cls d s ca (no rfl)
  | true =>
    refine codeAny_handlers_suite (HandSPX.lands_againZ ca.fly fun h4 fl up => ?_)
    have ca4 := ca.again fl up
    obtain ⟨ob4, _, hz4, hdat4, S4⟩ := ca4.suite hf
    refine wpAny_mono ((hsu a ob4 cls d (X.pn ++ pins) hz4 hdat4).run [] _ _ H _ S4 (yes rfl a ca.free)) (fun fl s6 r => ?_) (fun _ _ z => z.elim)
    cases fl with
    | next => obtain ⟨σ6, H6, S6, q6⟩ := r; exact ⟨σ6, H6, S6.unsuite ok, q6⟩
    | brk => obtain ⟨σ6, H6, S6, q6⟩ := r; exact ⟨σ6, H6, S6.unsuite ok, q6⟩
    | cont => obtain ⟨σ6, H6, S6, q6⟩ := r; exact ⟨σ6, H6, S6.unsuite ok, q6⟩
    | ret u => obtain ⟨v6, σ6, H6, S6, r6, q6⟩ := r; exact ⟨v6, σ6, H6, S6.unsuite ok, r6, q6⟩
theorem jcq {body : List Stmt} {h0 : ExceptHandler} {hds : List ExceptHandler} {tb : WX → TS} {wish : Ends → WX} (hs : X.stack = X.env :: X.outer) (hf : X.env.frame = some X.env.locals)
    (hb : ∀ (W : WX) (pn : List (Addr × Obj)) (xe : Value → Shared → Prop), Takes (X.tr pn xe) W → PassesOwn (model X.prog X.w) X.A X.env xe → PSs (X.tr pn xe) body (tb W)) (hc : ∀ D, X.Ok → jai X (h0 :: hds) D (wish D)) :
    PS X (.Try body (h0 :: hds) [] [] pos) (fun D σ H => tb (wish D) D σ H) := by
  refine ⟨fun pins s σ H D I h => ?_⟩
  have ok := I.ok
  have top : X.A.frames = some (X.env :: X.outer) := by rw [ok.frames, hs]
  refine wpAny_Try_except (wpAny_mono ((hb (wish D) (X.pn ++ pins) (fun e s₁ => wpAny (model X.prog X.w) X.A (noteFrame e X.env) (fun _ s₂ => wpAny (model X.prog X.w) X.A (setFlight e none) (fun _ s₃ =>
    wpAny (model X.prog X.w) X.A (handleBy e X.env (h0 :: hds)) (SP X pins D) X.xe s₃) X.xe s₂) X.xe s₁) (fun u s' xx => ?_) PassesOwn.looking).run [] s σ H D (I.toTry _) h) (fun fl s1 r => ?_) (fun _ _ z => z))
  · obtain ⟨a, B, sI, pins', σ', H', cls, d, rfl, J', nb, up, sky, na, os, ag, w⟩ := xx
    have J : Inv X pins σ' H' sI := J'.ofTry ok
    refine Sky.land Zc.steady top hf (by rw [← hs]; exact sky) fun h3 fl3 up3 => ?_
    exact hc D ok pins a B sI σ' H' cls d { s' with heap := h3 } ⟨J, nb, up.trans up3, fl3, na, os, ag⟩ w
  · cases fl with
    | next => obtain ⟨σ6, H6, J6, q⟩ := r; exact wpAny_execs_nil ⟨σ6, H6, J6.ofTry ok, q⟩
    | brk => obtain ⟨σ6, H6, J6, q⟩ := r; exact ⟨σ6, H6, J6.ofTry ok, q⟩
    | cont => obtain ⟨σ6, H6, J6, q⟩ := r; exact ⟨σ6, H6, J6.ofTry ok, q⟩
    | ret u => obtain ⟨v6, σ6, H6, J6, r6, q⟩ := r; exact ⟨v6, σ6, H6, J6.ofTry ok, r6, q⟩
end
section
variable {X : Cx} {Cl : Nat → Addr} {W : WX} {K : PySem.W.Frag} {pos : Pos}
structure ErF (K : PySem.W.Frag) (C : Addr) : Prop where
  xf : XfC K C
  no : PySem.W.findIn K (.ref C) "at" = some none
  xc : ExcC K C
abbrev HF := Nat → Int → jc → Option Out
def ybG : HF := fun c i ρ => some (.exc ρ c i)
def qaK (m : Nat → Option Bool) (g : FS) (rest : HF) : HF := fun c i ρ => match m c with
  | some true => match g ρ with
    | some (.exc _ _ _) => none
    | o => o
  | some false => rest c i ρ
  | none => none
def qa2 (fb : FS) (h : HF) : FS := fun ρ => match fb ρ with
  | some (.exc ρ1 c i) => h c i ρ1
  | o => o
def HOk (K : PySem.W.Frag) (Cl : Nat → Addr) (W : WX) (h : HF) (wish : Ends → WX) : Prop := ∀ (D : Ends) (H0 : Hp) (Z : Addr → Prop) (o : Out) (c : Nat) (i : Int) (ρ : jc) (σ : St) (H : Hp) (dd : Addr), h c i ρ = some o → SI K Cl H0 Z H σ ρ → H dd = some (.xd [(("at" : Str), .int i)]) → OOk K Cl W H0 Z D o → wish D (.ref (Cl c)) (some dd) σ H
def DHs (X : Cx) (Cl : Nat → Addr) (W : WX) (hds : List ExceptHandler) (h : HF) : Prop := ∃ wish : Ends → WX, (∀ D, X.Ok → jai X hds D (wish D)) ∧ HOk X.K Cl W h wish
theorem vb8 (hs : X.stack = X.env :: X.outer) (hf : X.env.frame = some X.env.locals) (tk : Takes X W) : DHs X Cl W [] ybG :=
  ⟨fun _ => W, fun D _ => wbY hs hf tk, fun D H0 Z o c i ρ σ H dd e I hd q => by cases e; exact q dd σ H I hd⟩
theorem qcT {x : Str} {N : Nat → Prop} {C : Value} {b0 : Stmt} {suite : List Stmt} {np pos' : Pos} {hds : List ExceptHandler} {rest : HF} {m : Nat → Option Bool} {g : FS} (hf : X.env.frame = some X.env.locals) (hc : Names X x C) (hm : ∀ c b, m c = some b → N c ∧ PySem.W.exmOne X.K (.ref (Cl c)) C = some b)
    (hsu : ∀ (a : Addr) (oe : Obj) (pn : List (Addr × Obj)), DSs (X.suite a ((a, oe) :: pn)) Cl W0 (b0 :: suite) g) (hr : DHs X Cl W hds rest) :
    DHs X Cl W (.ExceptHandler (some (.Name x np)) none (b0 :: suite) pos' :: hds) (qaK m g rest) := by
  obtain ⟨wr, h1, h2⟩ := hr
  refine ⟨_, fun D ok => vbY (ts := fun _ _ _ => za2 X.K Cl W0 g) ok hf hc (fun a oe cls d pn hz hdat => ⟨fun pins s σ H D I q => (hsu a oe pn).run pins s σ H D I q⟩) (h1 D ok), fun D H0 Z o c i ρ σ H dd e I hd q => ?_⟩
  unfold qaK at e
  cases e1 : m c with
  | none => rw [e1] at e; cases e
  | some b =>
    rw [e1] at e
    obtain ⟨hlt, hb⟩ := hm c b e1
    refine ⟨b, hb, fun hb1 a na => ?_, fun hb0 => ?_⟩
    · subst hb1
      dsimp only at e
      cases e2 : g ρ with
      | none => rw [e2] at e; cases e
      | some o2 =>
        rw [e2] at e
        refine ⟨H0, Z, _, o2, I, e2, ?_⟩
        cases o2 with
        | nx ρ2 => cases e; exact q
        | brk ρ2 => cases e; exact q
        | ct ρ2 => cases e; exact q
        | ret d => cases e; exact q
        | retF ds => cases e; exact q
        | retX ds k => cases e; exact q
        | exc _ _ _ => cases e
    · subst hb0
      exact h2 D H0 Z o c i ρ σ H dd e I hd q
theorem xcY {body : List Stmt} {h0 : ExceptHandler} {hds : List ExceptHandler} {fb : FS} {h : HF} (hs : X.stack = X.env :: X.outer) (hf : X.env.frame = some X.env.locals)
    (hb : ∀ (W' : WX) (pn : List (Addr × Obj)) (xe : Value → Shared → Prop), Takes (X.tr pn xe) W' → PassesOwn (model X.prog X.w) X.A X.env xe → DSs (X.tr pn xe) Cl W' body fb) (hh : DHs X Cl W (h0 :: hds) h) :
    DS X Cl W (.Try body (h0 :: hds) [] [] pos) (qa2 fb h) := by
  obtain ⟨wish, h1, h2⟩ := hh
  refine PS.imp (jcq (tb := fun W' => za2 X.K Cl W' fb) hs hf hb h1) fun D σ H ⟨H0, Z, ρ, o, I, e, q⟩ => ?_
  unfold qa2 at e
  cases e1 : fb ρ with
  | none => rw [e1] at e; cases e
  | some o1 =>
    rw [e1] at e
    refine ⟨H0, Z, ρ, o1, I, e1, ?_⟩
    cases o1 with
    | exc ρ1 c i => exact fun dd σ' H' I' hd => h2 D H0 Z o c i ρ1 σ' H' dd e I' hd q
    | nx ρ2 => cases e; exact q
    | brk ρ2 => cases e; exact q
    | ct ρ2 => cases e; exact q
    | ret d => cases e; exact q
    | retF ds => cases e; exact q
    | retX ds k => cases e; exact q
end
def mxL : List (Nat × Bool) → Nat → Option Bool
  | [], _ => none
  | (k, b) :: r, c => if k = c then some b else mxL r c
inductive AllL (P : Nat → Bool → Prop) : List (Nat × Bool) → Prop
  | nil : AllL P []
  | cons {k : Nat} {b : Bool} {r : List (Nat × Bool)} : P k b → AllL P r → AllL P ((k, b) :: r)
theorem wbe {P : Nat → Bool → Prop} : ∀ {l : List (Nat × Bool)}, AllL P l → ∀ c b, mxL l c = some b → P c b
  | _, .nil, c, b, e => nomatch e
  | _, .cons (k := k) (b := b') h t, c, b, e => by
    unfold mxL at e
    by_cases hk : k = c
    · rw [if_pos hk] at e
      cases e
      exact hk ▸ h
    · rw [if_neg hk] at e
      exact wbe t c b e
end DL
namespace FN
open PySem PySem.Spec PyProof.Rows L2 DL
noncomputable section
def zX : D := .tuple [.int 0, .int 498536548, .int 997073096, .int 651767980, .int 1994146192, .int 1802195444, .int 1303535960, .int 1342533948, .int 3988292384, .int 4027552580, .int 3604390888, .int 3412177804, .int 2607071920, .int 2262029012, .int 2685067896, .int 3183342108]
def zae : FS := yb (zS 1 (jg (ya))) (yb (qz (wi (qa (eG zcd (qa (eC (.int 63)) (qa (eG xg (qa (eV 0) (ya))) (ya)))) (ya))) (gN 2) (yb (yc 3 (eG qcd (qa (e2 yg (eV 0) (eV 2)) (ya)))) (qg (tV (e2 vO (eV 3) (e2 qcA (eC (.int 10)) (eC (.int 18))))) (qz (wi (qa (eC (.int 60)) (ya))) (gN 4) (qg (tV (e2 wz (eV 3) (eC (.int 0)))) (yb (xF 1 (e2 zW (eG kN (qa (eV 3) (ya))) (eC (.int 65536)))) (yc 3 (e2 ya2 (eV 3) (eC (.int 65536))))) (qh))) (yb (yc 5 (e2 zW (eG kN (qa (e2 xb (e2 jq (eV 3) (eC (.int 48271))) (e2 jq (e2 xb (eV 2) (eC (.int 1))) (eC (.int 69621)))) (ya))) (eC (.int 2147483647)))) (yb (yc 5 (e2 zW (eG kN (qa (e2 xb (e2 xb (e2 jq (eV 5) (eC (.int 16807))) (e2 jq (eC (.int 11)) (eV 2))) (eC (.int 5))) (ya))) (eC (.int 2147483629)))) (yb (xF 1 (e2 zW (eG kN (qa (eV 5) (ya))) (eC (.int 65536)))) (xF 1 (e2 zW (eG kN (qa (e2 ya2 (eV 5) (eC (.int 65536))) (ya))) (eC (.int 32768)))))))))) (ji (eV 1)))
def qae : DF := wC 1 6 zae
def yaU : FS := yb (yc 1 (eC (.int 4294967295))) (yb (qz (yM (eV 0)) (gN 2) (yb (yc 1 (e2 jV (eV 1) (eV 2))) (yb (yc 1 (e2 jV (e2 vF (eV 1) (eC (.int 4))) (e2 yg (eC zX) (e2 jx (eV 1) (eC (.int 15)))))) (yc 1 (e2 jV (e2 vF (eV 1) (eC (.int 4))) (e2 yg (eC zX) (e2 jx (eV 1) (eC (.int 15))))))))) (ji (e2 jV (eV 1) (eC (.int 4294967295)))))
def kcf : DF := wC 1 3 yaU
def xae : FS := ji (jg (qa (e2 jx (eV 0) (eC (.int 255))) (qa (e2 jx (e2 vF (eV 0) (eC (.int 8))) (eC (.int 255))) (qa (e2 jx (e2 vF (eV 0) (eC (.int 16))) (eC (.int 255))) (qa (e2 jx (e2 vF (eV 0) (eC (.int 24))) (eC (.int 255))) (ya))))))
def jD : DF := wC 1 1 xae
def yk : FS := yb (qg (tV (e2 jz (eV 1) (eG xg (qa (eV 0) (ya))))) (ji (e2 zW (eG kN (qa (e2 yg (eV 0) (eV 1)) (ya))) (eV 2))) (qh)) (ji (eC (.int 0)))
def je : DF := wC 3 3 yk
def jX : FS := yb (yc 1 (eC (.int 4294967295))) (yb (qz (yM (eV 0)) (gN 2) (qz (wi (qa (eC (.int 8)) (ya))) (gN 3) (yb (yc 4 (e2 jx (e2 jV (e2 vF (eV 2) (eV 3)) (eV 1)) (eC (.int 1)))) (yb (yc 1 (e2 vF (eV 1) (eC (.int 1)))) (qg (tV (e2 qu (eV 4) (eC (.int 1)))) (yc 1 (e2 jV (eV 1) (eC (.int 3988292384)))) (qh)))))) (ji (e2 jV (eV 1) (eC (.int 4294967295)))))
def zD : DF := wC 1 5 jX
def j7 : FS := ji (e2 xb (e2 xb (e2 xb (e2 yg (eV 0) (eC (.int 0))) (e2 zV (e2 yg (eV 0) (eC (.int 1))) (eC (.int 8)))) (e2 zV (e2 yg (eV 0) (eC (.int 2))) (eC (.int 16)))) (e2 zV (e2 yg (eV 0) (eC (.int 3))) (eC (.int 24))))
def qN : DF := wC 1 1 j7
end
noncomputable section
def zcb : FS := yb (zS 1 (jg (ya))) (yb (zS 2 (jg (ya))) (yb (qz (yM (eV 0)) (gN 3) (qg (tV (e2 qu (eV 3) (eC (.int 0)))) (yb (yaq 1 (jg (qa (e2 xb (eG xg (qa (eV 2) (ya))) (eC (.int 1))) (jaw (eV 2) (ya))))) (zS 2 (jg (ya)))) (yb (xF 2 (eV 3)) (qg (tV (e2 qu (eG xg (qa (eV 2) (ya))) (e2 gSub (eC (.int 255)) (eC (.int 1))))) (yb (yaq 1 (jg (qa (eC (.int 255)) (jaw (eV 2) (ya))))) (zS 2 (jg (ya)))) (qh))))) (yb (yaq 1 (jg (qa (e2 xb (eG xg (qa (eV 2) (ya))) (eC (.int 1))) (jaw (eV 2) (ya))))) (ji (eV 1)))))
def xbq : DF := wC 1 4 zcb
def jap : FS := yb (qg (tV (e2 gIn (eC (.int 0)) (eV 0))) (kj 4 (eLM xbJ (eV 0) (eC (.int 0)))) (qh)) (yb (qg (tV (e2 qu (eG xg (qa (eV 0) (ya))) (eC (.int 0)))) (kj 4 (eC (.int 0))) (qh)) (yb (zS 1 (jg (ya))) (yb (yc 2 (eC (.int 0))) (yb (vbJ (tV (e2 jz (eV 2) (eG xg (qa (eV 0) (ya))))) (yb (yc 3 (e2 yg (eV 0) (eV 2))) (yb (qg (tV (e2 wz (e2 xb (eV 2) (eV 3)) (eG xg (qa (eV 0) (ya))))) (kj 4 (eV 2)) (qh)) (yb (yaq 1 (jm (eV 0) (ve (e2 xb (eV 2) (eC (.int 1)))) (ve (e2 xb (eV 2) (eV 3))))) (yb (ya3 2 (fun i j => i + j) (eV 3)) (qg (tV (e2 jz (eV 3) (eC (.int 255)))) (xF 1 (eC (.int 0))) (qg (tV (e2 qu (eV 2) (eG xg (qa (eV 0) (ya))))) (kj 4 (eV 2)) (qh)))))))) (yb (zbJ 1) (ji (eV 1)))))))
def xp : DF := wC 1 4 jap
def z0 : FS := yb (yc 1 (jg (ya))) (yb (yc 2 (jg (ya))) (yb (qz (yM (e2 xb (eV 0) (jg (qa (eC (.int 0)) (ya))))) (gN 3) (yb (qg (tV (e2 wz (eV 3) (eC (.int 0)))) (yc 2 (e2 xb (eV 2) (jg (qa (eV 3) (ya))))) (qh)) (qg (zB (tV (e2 qu (eV 3) (eC (.int 0)))) (tV (e2 qu (eG xg (qa (eV 2) (ya))) (eC (.int 254))))) (yb (yc 1 (e2 xb (e2 xb (eV 1) (jg (qa (e2 xb (eG xg (qa (eV 2) (ya))) (eC (.int 1))) (ya)))) (eV 2))) (yc 2 (jg (ya)))) (qh)))) (ji (eV 1))))
def vy : DF := wC 1 4 z0
end
noncomputable section
def kaq : FS := yb (yc 2 (e2 xb (e2 xb (wc FN.je 3 (qa (eV 0) (qa (eV 1) (qa (eC (.int 65536)) (ya))))) (e2 jq (eC (.int 65536)) (wc FN.je 3 (qa (eV 0) (qa (e2 xb (eV 1) (eC (.int 1))) (qa (eC (.int 65536)) (ya))))))) (e2 jq (eC (.int 4294967296)) (wc FN.je 3 (qa (eV 0) (qa (e2 xb (eV 1) (eC (.int 2))) (qa (eC (.int 256)) (ya)))))))) (ji (e2 vF (eV 2) (wc FN.je 3 (qa (eV 0) (qa (e2 xb (eV 1) (eC (.int 3))) (qa (eC (.int 41)) (ya)))))))
def wX : FS := yb (zS 1 (jg (ya))) (yb (qz (wi (qa (eC (.int 7)) (ya))) (gN 2) (qg (zB (tV (e2 qu (eV 2) (eC (.int 0)))) (tV (e2 wz (eV 0) (eC (.int 0))))) (yb (xF 1 (e2 jx (eV 0) (eC (.int 127)))) (yc 0 (e2 vF (eV 0) (eC (.int 7))))) (qh))) (ji (e2 xb (zz [3] (wF 3) (yM (jm (eV 1) (jj) (ve (e1 xa2 (eC (.int 1)))))) (fun _ => some (.ok true)) (e2 xb (eV 3) (eC (.int 128)))) (jm (eV 1) (ve (e1 xa2 (eC (.int 1)))) (jj)))))
def vP : DF := wC 1 4 wX
def zH : FS := yb (qz (vZ (qa (eV 1) (qa (e2 xb (eV 1) (eC (.int 6))) (ya)))) (gN 2) (yb (qg (tV (e2 vO (eV 2) (eG xg (qa (eV 0) (ya))))) (kj 3 (eG xg (qa (eV 0) (ya)))) (qh)) (qg (tV (e2 jz (e2 yg (eV 0) (eV 2)) (eC (.int 128)))) (ji (e2 xb (eV 2) (eC (.int 1)))) (qh)))) (ji (e2 xb (eV 1) (eC (.int 6))))
def xr : DF := wC 2 3 zH
def kG : FS := yb (yc 2 (wc FN.xr 2 (qa (eV 0) (qa (eV 1) (ya))))) (yb (yc 3 (eC (.int 0))) (yb (qz (vZ (qa (eV 1) (qa (eV 2) (ya)))) (gN 4) (ya3 3 (fun i j => i + j) (e2 zV (e2 jx (e2 yg (eV 0) (eV 4)) (eC (.int 127))) (e2 jq (eC (.int 7)) (e2 gSub (eV 4) (eV 1)))))) (yb (qg (zB (tV (e2 vO (e2 yg (eV 0) (e2 gSub (eV 2) (eC (.int 1)))) (eC (.int 128)))) (tV (e2 vO (eV 3) (eC (.int 1099511627776))))) (kj 1 (eV 1)) (qh)) (yb (qg (waw (tV (e2 wz (e2 gSub (eV 2) (eV 1)) (eC (.int 1)))) (tV (e2 qu (e2 yg (eV 0) (e2 gSub (eV 2) (eC (.int 1)))) (eC (.int 0))))) (kj 2 (eV 1)) (qh)) (ji (yF (qa (eV 3) (qa (eV 2) (ya)))))))))
def vz : DF := wC 2 5 kG
end
end FN
namespace DL
open PySem PySem.Spec PyProof.Rows L2
section
variable {X : Cx} {W : WX} {Cl : Nat → Addr}
theorem vL.grow {pins : List (Addr × Obj)} {a : Addr} {B : Heap} {sI : Shared} {σ : St} {H : Hp} {cls : Value} {d : Option Addr} {s : Shared} {h2 : Heap} (c : vL X pins a B sI σ H cls d s) (kp : ∀ b o, s.heap.get? b = some o → h2.get? b = some o) : vL X pins a B sI σ H cls d { s with heap := h2 } := by
  obtain ⟨f1, f2, f3, oe, ws, T, oT, ts, he, hz, hd, h1, hn, hne, hT, hdT, h3⟩ := c.fly
  exact ⟨c.inv, c.ground, c.slots.trans (Heap.UpToSlots.of_keeps kp), ⟨fun b o q => kp b o (f1 b o q), f2, f3.of_keeps fun b o q _ => ⟨o, kp b o q, rfl⟩, oe, ws, T, oT, ts, kp _ _ he, hz, hd, h1, hn, hne, kp _ _ hT, hdT, h3⟩, c.free, c.os, c.bare⟩
def jcF (X : Cx) (t : Expr) (test : Value → Bool → Prop) : Prop := ∀ (pins : List (Addr × Obj)) (a : Addr) (B : Heap) (sI : Shared) (σ : St) (H : Hp) (cls : Value) (d : Option Addr) (s : Shared) (b : Bool) (Q : Bool → Shared → Prop) (E : Value → Shared → Prop),
  X.env.frame = some X.env.locals → vL X pins a B sI σ H cls d s → test cls b → (∀ h2, (∀ q o, s.heap.get? q = some o → h2.get? q = some o) → Q b { s with heap := h2 }) →
  wpAny (model X.prog X.w) (X.A.mark (some (.ref a))) (eval t X.env) (fun c s1 => wpAny (model X.prog X.w) (X.A.mark (some (.ref a))) (excMatches (.ref a) c) Q E s1) E s
theorem zbo {pins pn : List (Addr × Obj)} {a : Addr} {σ : St} {H : Hp} {s : Shared} {x : Str} {c : Value} {p : Pos} {Q : Value → Shared → Prop} {E : Value → Shared → Prop} (S : Inv (X.suite a pn) pins σ H s) (hc : Names X x c) (q : Q c s) : wpAny (model X.prog X.w) (X.A.mark (some (.ref a))) (eval (.Name x p) X.env) Q E s := by
  obtain ⟨hg, hdbg, hm | ⟨hm, hv, hnn⟩⟩ := hc
  · exact ld_glob (X := X.suite a pn) S hg hm q hdbg
  · exact ld_blt (X := X.suite a pn) S hg hm hv q hnn hdbg
theorem wcc {x1 x2 x3 : Str} {c1 c2 c3 : Value} {p1 p2 p3 tpos : Pos} {kk : Nat} (n1 : Names X x1 c1) (n2 : Names X x2 c2) (n3 : Names X x3 c3) :
    jcF X (.Tuple [.Name x1 p1, .Name x2 p2, .Name x3 p3] kk tpos) (fun cls b => PySem.W.exmAny X.K cls [c1, c2, c3] = some b) := fun pins a B sI σ H cls d s b Q E hf ca hb q => by
  obtain ⟨ob, hob, hz, hdat, S⟩ := ca.suite hf
  have look : PySem.W.Looks (model X.prog X.w) s.heap (typeOf (.ref a)) cls := fun A Q E s' k q => wpAny_typeOf_ref (k _ _ hob) (by rw [hz.1]; exact q)
  refine wpAny_Tuple ?_
  refine wpAny_items_cons (zbo S n1 ?_)
  refine wpAny_items_cons (zbo S n2 ?_)
  refine wpAny_items_cons (zbo S n3 ?_)
  refine wpAny_items_nil ⟨by size_fits, ?_⟩
  have kp : ∀ q o, s.heap.get? q = some o → (s.heap.push { cls := .type "tuple", data := .seq [c1, c2, c3].toArray }).get? q = some o := fun _ _ z => Heap.get?_push_of_some _ z
  exact (PySem.W.exm_tup3 (M := model X.prog X.w) ((ca.now.kIn).keeps kp) (look.keeps kp) (Heap.get?_push_size s.heap rfl) hb).here (q _ kp)
theorem ybY {D : Ends} {t : Expr} {test : Value → Bool → Prop} {b0 : Stmt} {suite : List Stmt} {pos' : Pos} {hds : List ExceptHandler} {rest : WX} {ts : Addr → Value → Option Addr → TS} (ok : X.Ok) (hf : X.env.frame = some X.env.locals) (ht : jcF X t test)
    (hsu : ∀ (a : Addr) (oe : Obj) (cls : Value) (d : Option Addr) (pn : List (Addr × Obj)), Zc cls d oe → (∃ vs, oe.data = .fields vs) → PSs (X.suite a ((a, oe) :: pn)) (b0 :: suite) (ts a cls d)) (hr : jai X hds D rest) :
    jai X (.ExceptHandler (some t) none (b0 :: suite) pos' :: hds) D (wcF test ts D rest) := fun pins a B sI σ H cls d s ca ⟨b, hb, yes, no⟩ => by
  refine wpAny_handleBy_cons (codeAny_handlers_test (ht pins a B sI σ H cls d s b _ _ hf ca hb fun h2 kp => ?_)) (by intro q; cases q)
  have ca2 := ca.grow kp
  cases b with
  | false => exact hr pins a B sI σ H cls d _ ca2 (no rfl)
  | true =>
    refine codeAny_handlers_suite (HandSPX.lands_againZ ca2.fly fun h4 fl up => ?_)
    have ca4 := ca2.again fl up
    obtain ⟨ob4, _, hz4, hdat4, S4⟩ := ca4.suite hf
    refine wpAny_mono ((hsu a ob4 cls d (X.pn ++ pins) hz4 hdat4).run [] _ _ H _ S4 (yes rfl a ca.free)) (fun fl s6 r => ?_) (fun _ _ z => z.elim)
    cases fl with
    | next => obtain ⟨σ6, H6, S6, q6⟩ := r; exact ⟨σ6, H6, S6.unsuite ok, q6⟩
    | brk => obtain ⟨σ6, H6, S6, q6⟩ := r; exact ⟨σ6, H6, S6.unsuite ok, q6⟩
    | cont => obtain ⟨σ6, H6, S6, q6⟩ := r; exact ⟨σ6, H6, S6.unsuite ok, q6⟩
    | ret u => obtain ⟨v6, σ6, H6, S6, r6, q6⟩ := r; exact ⟨v6, σ6, H6, S6.unsuite ok, r6, q6⟩
theorem vbe {K : PySem.W.Frag} {cls c1 c2 c3 : Value} {b1 b2 b3 : Bool} (h1 : PySem.W.exmOne K cls c1 = some b1) (h2 : PySem.W.exmOne K cls c2 = some b2) (h3 : PySem.W.exmOne K cls c3 = some b3) : PySem.W.exmAny K cls [c1, c2, c3] = some (b1 || (b2 || b3)) := by
  simp [PySem.W.exmAny, h1, h2, h3]
theorem jcz {x1 x2 x3 : Str} {p1 p2 p3 tpos : Pos} {kk : Nat} {N : Nat → Prop} {C1 C2 C3 : Value} {b0 : Stmt} {suite : List Stmt} {pos' : Pos} {hds : List ExceptHandler} {rest : HF} {m : Nat → Option Bool} {g : FS} (hf : X.env.frame = some X.env.locals) (n1 : Names X x1 C1) (n2 : Names X x2 C2) (n3 : Names X x3 C3)
    (hm : ∀ c b, m c = some b → N c ∧ PySem.W.exmAny X.K (.ref (Cl c)) [C1, C2, C3] = some b)
    (hsu : ∀ (a : Addr) (oe : Obj) (pn : List (Addr × Obj)), DSs (X.suite a ((a, oe) :: pn)) Cl W0 (b0 :: suite) g) (hr : DHs X Cl W hds rest) :
    DHs X Cl W (.ExceptHandler (some (.Tuple [.Name x1 p1, .Name x2 p2, .Name x3 p3] kk tpos)) none (b0 :: suite) pos' :: hds) (qaK m g rest) := by
  obtain ⟨wr, h1, h2⟩ := hr
  refine ⟨_, fun D ok => ybY (ts := fun _ _ _ => za2 X.K Cl W0 g) ok hf (wcc n1 n2 n3) (fun a oe cls d pn hz hdat => ⟨fun pins s σ H D I q => (hsu a oe pn).run pins s σ H D I q⟩) (h1 D ok), fun D H0 Z o c i ρ σ H dd e I hd q => ?_⟩
  unfold qaK at e
  cases e1 : m c with
  | none => rw [e1] at e; cases e
  | some b =>
    rw [e1] at e
    obtain ⟨hlt, hb⟩ := hm c b e1
    refine ⟨b, hb, fun hb1 a na => ?_, fun hb0 => ?_⟩
    · subst hb1
      dsimp only at e
      cases e2 : g ρ with
      | none => rw [e2] at e; cases e
      | some o2 =>
        rw [e2] at e
        refine ⟨H0, Z, _, o2, I, e2, ?_⟩
        cases o2 with
        | nx ρ2 => cases e; exact q
        | brk ρ2 => cases e; exact q
        | ct ρ2 => cases e; exact q
        | ret d => cases e; exact q
        | retF ds => cases e; exact q
        | retX ds k => cases e; exact q
        | exc _ _ _ => cases e
    · subst hb0
      exact h2 D H0 Z o c i ρ σ H dd e I hd q
end
theorem xbY {v : Value} {o : Obj} {H : Heap → Prop} (B : Begins v o H) :
    Meets (Builtin.«enumerate.__new__» ⟨[.type "enumerate", v], []⟩) (fun _ R s => H s.heap ∧
      R (.ok (.ret (.ref (s.heap.push o).objs.size))) { s with heap := (s.heap.push o).push { cls := .type "enumerate", data := .fields #[.none, .bool false, .ref s.heap.objs.size, rawInt 0, .none, .none] } }) :=
  .of_wp fun prog w A R s h => by
    obtain ⟨hp, g, d, tk, os⟩ := s; obtain ⟨h1, h⟩ := h
    have hsub := sub_enumerate
    have q1 : ∀ {A' : Around} {E : Value → Shared → Prop} {Q : Value → Shared → Prop}, Q (.ref hp.objs.size) ⟨hp.push o, g, d, tk, os⟩ → wpAny (model prog w) A' (pyIter v) Q E ⟨hp, g, d, tk, os⟩ :=
      fun q => B.iter prog w _ _ ⟨hp, g, d, tk, os⟩ _ h1 q
    wp_walk using q1
    refine wpAny_stack_any fun st => wpAny_pure ?_
    split
    · rename_i c _ _ _ _ _
      cases (c == Value.type "enumerate")
      · wp_walk using q1
        exact ⟨_, rfl, h⟩
      · wp_walk using q1
        exact ⟨_, rfl, h⟩
    · wp_walk using q1
      exact ⟨_, rfl, h⟩
theorem kbG {prog : Program} {w : World} {A : Around} {E : Value → Shared → Prop} {s : Shared} {v : Value} {o : Obj} {H : Heap → Prop} {Q : Value → Shared → Prop} (B : Begins v o H) (h1 : H s.heap)
    (h : ∀ h', IsEnum h' (s.heap.objs.size + 1) s.heap.objs.size 0 .none → h'.get? s.heap.objs.size = some o → h'.objs.size = s.heap.objs.size + 2 →
      (∀ b o, s.heap.get? b = some o → h'.get? b = some o) → Q (.ref (s.heap.objs.size + 1)) { s with heap := h' }) :
    wpAny (model prog w) A (call (.type "enumerate") [v]) Q E s := by
  refine callType_new F.called_enumerate (by decide) (F.typeCall_enumerate_1 _) (F.newCall_enumerate_1 _) (fun obj => F.args_object_init_2 obj _) F.entry_enumerate_new
    (xbY B) ⟨h1, ?_⟩
  have hz : (s.heap.push o).objs.size = s.heap.objs.size + 1 := Heap.size_push ..
  show _ ∧ _
  rw [hz]
  have he : IsEnum ((s.heap.push o).push { cls := .type "enumerate", data := .fields #[.none, .bool false, .ref s.heap.objs.size, rawInt 0, .none, .none] }) (s.heap.objs.size + 1) s.heap.objs.size 0 .none := by
    have q := Heap.get?_push_size (s.heap.push o) (o := { cls := .type "enumerate", data := .fields #[.none, .bool false, .ref s.heap.objs.size, rawInt 0, .none, .none] }) rfl
    rw [hz] at q; exact q
  refine ⟨⟨_, he, rfl⟩, h _ he (Heap.get?_push_of_some _ (Heap.get?_push_size _ B.free)) (by rw [Heap.size_push, hz]) fun b o x => Heap.get?_push_of_some _ (Heap.get?_push_of_some _ x)⟩
def wcz (K : PySem.W.Frag) (a : Addr) : It :=
  ⟨fun i H => ∃ (xs : List V) (x : V), SqT K H a xs ∧ xs[i]? = some x, fun i H v H' => ∃ T x, v = .ref T ∧ H T = none ∧ H' = upd H T (.tup [.int (i : Nat), x]) ∧ ∀ xs, SqT K H a xs → xs[i]? = some x, fun i H => ∃ xs : List V, SqT K H a xs ∧ xs.length ≤ i⟩
theorem vcc {P : Program} {w : World} {K : PySem.W.Frag} {elts : List Expr} {kk : Nat} {tpos : Pos} (a e it : Addr) :
    Turn P w K (.Tuple elts kk tpos) (wcz K a) [e, it] e (fun i h => (∃ old, IsEnum h e it ((i : Nat) : Int) old) ∧ h.IsTupleIter it a i ∧ e ≠ it) where
  mem := by simp
  obj := fun i h st b hb => by
    obtain ⟨⟨old, he⟩, ⟨o, ho, hc, hd⟩, _⟩ := st
    have e' : b = e ∨ b = it := by simpa using hb
    rcases e' with z | z
    · rw [z]; exact ⟨_, he, fun v q => nomatch q⟩
    · rw [z]; exact ⟨o, ho, fun v q => by rw [hd] at q; cases q⟩
  keep := fun i h h' st k => let ⟨⟨old, he⟩, hi, hne⟩ := st; ⟨⟨old, k e (by simp) _ he⟩, hi.at fun o q => k it (by simp) o q, hne⟩
  item := by
    intro X hP hw hK hc i pins s σ H E I hf st hg
    subst hP hw hK
    obtain ⟨⟨old, he⟩, hit, hne⟩ := st
    obtain ⟨xs, x, hq, hx⟩ := hg
    obtain ⟨its, rv, p, hz⟩ := I.tuple hq
    obtain ⟨u, hu, ru⟩ := rv.get hx
    have hel : e < s.heap.objs.size := Heap.lt_size he
    have hil : it < s.heap.objs.size := by obtain ⟨_, q, _⟩ := hit; exact Heap.lt_size q
    have hai : a ≠ it := fun z => by
      obtain ⟨o1, q1, c1, _⟩ := p
      obtain ⟨o2, q2, c2, _⟩ := hit
      rw [z, q2] at q1
      cases q1
      rw [c1] at c2
      exact absurd c2 (by decide)
    have hae : e ≠ a := fun z => by
      obtain ⟨o1, q1, c1, _⟩ := p
      have q2 := he
      rw [z] at q2
      rw [show s.heap.get? a = _ from q2] at q1
      cases q1
      injection c1 with c1
      exact absurd c1 (by decide)
    have ilt : i < its.toArray.size := by
      have := (List.getElem?_eq_some_iff.mp hu).1
      simpa using this
    refine wpAny_pyNext_enum_itemD (Draws.tuple (A := X.A.in1) (I.ok.hd hc) it a hai its.toArray) he ⟨hit, p⟩ ilt hne (by simp [hne, hae]) fun x' h' tk hP ho hst' hT hsz hk => ?_
    obtain rfl : x' = u := by
      have q : its[i]? = some x' := by simpa using hP
      rw [hu] at q
      cases q
      rfl
    refine ⟨_, rfl, wpAny_letOwnedTupleGo_enum (s := { s with heap := h', toks := tk + 1 }) ho fun h'' he' sb => ?_⟩
    have hT2 : h''.get? s.heap.objs.size = some { cls := .type "tuple", data := .seq #[.int i tk, x'] } := (sb.2 _ (Nat.ne_of_gt hel)).trans hT
    have new : ObjOk X.prog X.w (upd H s.heap.objs.size (.tup [.int (i : Nat), x])) h'' s.heap.objs.size (.tup [.int (i : Nat), x]) :=
      ⟨by show 2 ≤ sizeLine; decide, [.int i tk, x'], .cons ⟨_, rfl⟩ (.cons ru .nil), ⟨_, hT2, rfl, _, rfl⟩⟩
    have I1 : Inv X pins σ (upd H s.heap.objs.size (.tup [.int (i : Nat), x])) { s with heap := h'', toks := tk + 1 } :=
      I.turnedNew (ch := [e, it]) (fun b ob hb q => (sb.2 b (fun z => hb (by simp [z]))).trans (hk b ob (fun z => hb (by simp [z])) (fun z => hb (by simp [z])) q)) hf (Nat.le_refl _) new
    refine ⟨.ref s.heap.objs.size, _, I1, rfl, ⟨_, x, rfl, I.hok.fresh (Nat.le_refl _), rfl, fun ys hy => by rw [I.tuple_inj hy hq]; exact hx⟩, ⟨⟨x', ?_⟩, hst'.1.at fun o q => (sb.2 it (Ne.symm hne)).trans q, hne⟩, fun b hb => ?_⟩
    · have e1 : ((i + 1 : Nat) : Int) = (i : Int) + 1 := by omega
      rw [e1]; exact he'
    · have hb' : b < s.heap.objs.size := by
        have e' : b = e ∨ b = it := by simpa using hb
        rcases e' with z | z
        · rw [z]; exact hel
        · rw [z]; exact hil
      rw [upd_ne (Nat.ne_of_lt hb')]
      exact (hf b hb).1
  done := by
    intro X hP hw hK hc i pins s σ H E I hf st hg
    subst hP hw hK
    obtain ⟨⟨old, he⟩, hit, hne⟩ := st
    obtain ⟨xs, hq, hx⟩ := hg
    obtain ⟨its, rv, p, hz⟩ := I.tuple hq
    obtain ⟨f0, f1, f2, f3, f4, f5⟩ := hf it (by simp)
    have hl := rv.length
    have hT : s.TypeIs (.ref e) "enumerate" := ⟨_, he, rfl⟩
    unfold pyNext
    refine wpAny_bind (wpAny_attempt (wpAny_callSpecial?_slot (name := Str.ofString "__next__") hT F.slot_enumerate_next
      (wpAny_call_entry F.slot_enumerate_next hT F.entry_enumerate_next ?_ (F.args_enumerate_next_1 _))))
    show wpAny _ _ (field (.ref e) 2 >>= _) _ _ _
    refine wpAny_bind (wpAny_field he rfl (x := .ref it) rfl ?_)
    refine wpAny_bind (wpAny_nextOf_tuple_end (A := X.A.in1) (I.ok.hd hc) hit p (by simp; omega) fun h' x he' hx' => ?_)
    obtain ⟨o, ho, hc⟩ := hx'
    refine wpAny_bind (wpAny_isInstance (T := "StopIteration") (b := true) ⟨o, ho, hc⟩ isSubtype_stop ?_)
    exact wpAny_pure ⟨rfl, I.turned (t' := s.toks) (fun b o hb q => he' b o hb q) f0 f1 f3 f4 f5⟩
  self := fun A i s Q E st h => let ⟨⟨_, he⟩, _⟩ := st; wpAny_pyIter_enum he h
def kcY (K : PySem.W.Frag) (ta : TA) : TI := fun σ H R => ta σ H fun vs H1 => ∃ a xs, vs = [.ref a] ∧ SqT K H1 a xs ∧ R (wcz K a) H1
theorem vcz {X : Cx} {e : Expr} {ta : TA} {p pos tpos : Pos} {elts : List Expr} {kk : Nat} (hg : Gl X "enumerate") (hm : X.mg "enumerate" = none) (ha : PA X [e] ta) (hs : starEach [e] X.env = [(false, eval e X.env)] := by rfl) :
    PI X (.Tuple elts kk tpos) (.Call (.Name "enumerate" p) [e] [] pos) (kcY X.K ta) := by
  refine ⟨fun pins s σ H R I h => ?_⟩
  refine Call_ (ld_blt I hg hm boot_enumerate (PyProof.Rows.callWith_type1 (thn (ha.run pos pins s σ H _ I h) fun us s1 ⟨vs, H1, I1, r1, q1⟩ => ?_) hs rfl))
  obtain ⟨a, xs, ex, hq, q⟩ := q1
  subst ex
  cases r1 with
  | cons r rr =>
    cases rr
    cases r
    obtain ⟨its, rv, p', hz⟩ := I1.tuple hq
    refine kbG (begins_tuple a its.toArray) p' fun h' he hit hsz hk => wpAny_pyIter_enum he ?_
    have I2 : Inv X pins σ H1 { s1 with heap := h' } := I1.kept (t' := s1.toks) hk
    refine ⟨s1.heap.objs.size + 1, [s1.heap.objs.size + 1, s1.heap.objs.size], _, _, H1, rfl, I2, vcc a (s1.heap.objs.size + 1) s1.heap.objs.size, ⟨⟨.none, he⟩, ⟨_, hit, rfl, rfl⟩, Nat.succ_ne_self _⟩, fun b hb => ?_, q⟩
    have e' : b = s1.heap.objs.size + 1 ∨ b = s1.heap.objs.size := by simpa using hb
    have hle : s1.heap.objs.size ≤ b := by
      rcases e' with z | z
      · rw [z]; exact Nat.le_add_right _ _
      · rw [z]; exact Nat.le_refl _
    exact I1.fpOk hle (I1.hok.fresh hle)
theorem ycz {K : PySem.W.Frag} {Hs : Hp} {a : Addr} {xs : List V} {ds : List D} (h1 : SqT K Hs a xs) (h2 : DpAll K Hs xs ds) : ja2 K Hs (wcz K a) (wN ds) := fun Z' H' s live => by
  have q : SqT K H' a xs := SqT.same (s.trans kf) h1
  have hl : (wN ds).length = xs.length := by
    unfold wN
    rw [List.length_map, List.length_zipIdx, h2.length]
  refine ⟨fun i hi => ⟨xs, xs[i]'(by rw [← hl]; exact hi), q, List.getElem?_eq_getElem _⟩, fun i hi => ⟨xs, q, by rw [← hl]; exact hi⟩, fun i x H'' d y hd => ?_⟩
  obtain ⟨T, z, rfl, nT, rfl, y⟩ := y
  have e3 := y xs q
  obtain ⟨d', e1, e2⟩ := h2.get' e3
  unfold wN at hd
  rw [List.getElem?_map, List.getElem?_zipIdx, e1] at hd
  cases hd
  have nz : ¬ Z' T := fun z => live T z nT
  refine ⟨fun _ => jv nT, .tup (SqT.of (ze nz upd_same)) (.cons ?_ (.cons ?_ .nil))⟩
  · rw [Nat.zero_add]
    exact .int _
  · exact Dp.same (s.trans (vd (xC nT) fun _ h => .inl h)) e2
section
variable {X : Cx} {Cl : Nat → Addr} {W : WX} {e : Expr} {p pos : Pos} {g : FA}
@[simp] def wa2 (g : FA) (ρ : jc) : Option (Except Er (List D)) := match g ρ with
  | none => none
  | some (.error e) => some (.error e)
  | some (.ok vs) => match vs with
    | [.s (.list ds)] => some (.ok (wN ds))
    | [.f ds] => some (.ok (wN ds))
    | [.s (.tuple ds)] => some (.ok (wN ds))
    | _ => none
theorem xcz {elts : List Expr} {kk : Nat} {tpos : Pos} (hm : X.mg "enumerate" = none) (ha : DA X Cl W [e] g) (hg : Gl X "enumerate" := by rfl) (hs : starEach [e] X.env = [(false, eval e X.env)] := by rfl) :
    DIt X Cl W (.Tuple elts kk tpos) (.Call (.Name "enumerate" p) [e] [] pos) (wa2 g) :=
  PI.imp (DL.PI.or (pi_enum hg hm ha hs) (vcz hg hm ha hs)) fun σ H R ⟨Z, ρ, r, I, e, q⟩ => by
    unfold wa2 at e
    cases e1 : g ρ with
    | none => rw [e1] at e; cases e
    | some r1 =>
      rw [e1] at e
      cases r1 with
      | error er =>
        cases e
        exact .inl (yB I e1 (fun er z => by cases z; exact q) fun vs xs H1 ev s1 hvs I1 => by cases ev)
      | ok vs0 =>
        dsimp only at e
        split at e
        · rename_i ds
          cases e
          refine .inl (yB I e1 (fun er z => by cases z) fun vs xs H1 ev s1 hvs I1 => ?_)
          cases ev
          obtain ⟨x, rfl, h⟩ := hvs.one
          obtain ⟨a, ys, rfl, h1, h2⟩ := Dp.lst_inv (show Dp X.K (hide H1 (Zo Z σ ρ)) x (.list ds) from h)
          exact ⟨a, ys, rfl, .inl (Rd.same kf h1), q _ H1 s1 (yb8 h1 h2)⟩
        · rename_i ds
          cases e
          refine .inl (yB I e1 (fun er z => by cases z) fun vs xs H1 ev s1 hvs I1 => ?_)
          cases ev
          obtain ⟨x, rfl, h⟩ := hvs.one
          obtain ⟨a, ys, rfl, n, h1, h2⟩ := h
          have np : ¬ Zo Z σ ρ a := fun z => I.jZ z n
          exact ⟨a, ys, rfl, SqL.of h1, q _ H1 s1 (yb8 (Rd.of (ze np h1)) (DpAll.same (vd (zd.refl _) fun _ h => .inl (.inl h)) h2))⟩
        · rename_i ds
          cases e
          refine .inr (yB I e1 (fun er z => by cases z) fun vs xs H1 ev s1 hvs I1 => ?_)
          cases ev
          obtain ⟨x, rfl, h⟩ := hvs.one
          obtain ⟨a, ys, rfl, h1, h2⟩ := Dp.kD (show Dp X.K (hide H1 (Zo Z σ ρ)) x (.tuple ds) from h)
          exact ⟨a, ys, rfl, SqT.same kf h1, q _ H1 s1 (ycz h1 h2)⟩
        · cases e
end
section
variable {X : Cx} {Cl : Nat → Addr} {W : WX} {K : PySem.W.Frag} {pos : Pos}
end
variable {K : PySem.W.Frag} {Cl : Nat → Addr}
@[simp] def vbh : List Val → Option Val
  | [v] => v.items.map fun ds => .s (.tuple ds)
  | _ => none
theorem kcz : CRD K (fun xs H Q => ∃ p ys, xs = [.ref p] ∧ ((SqL K H p ys ∧ ∀ l, H l = none → Q (.ref l) (upd H l (.tup ys))) ∨ (SqT K H p ys ∧ Q (.ref p) H))) vbh := fun Cl Z σ ρ H0 H xs vs v Q I s hv e q => by
  unfold vbh at e
  split at e
  · rename_i u
    obtain ⟨x, rfl, h⟩ := hv.one
    cases e1 : u.items with
    | none => rw [e1] at e; cases e
    | some ds =>
      rw [e1] at e
      cases e
      obtain ⟨p, ys, rfl, h1, h2⟩ := h.items I e1
      refine ⟨p, ys, rfl, .inl ⟨.inl h1, fun l nl => q _ _ (jv nl) ?_⟩⟩
      have n0 : H0 l = none := s.free nl
      have np : ¬ Zo Z σ ρ l := fun z => I.jZ z n0
      exact Dp.tup (SqT.of (ze np upd_same)) (DpAll.same (vd (xC nl) fun _ z => .inl z) h2)
  · cases e
end DL
namespace FN
open PySem PySem.Spec PyProof.Rows L2 DL
noncomputable section
def zI : FS := yb (qg (zB (tV (e2 qu (eG xg (qa (eV 0) (ya))) (eC (.int 0)))) (tV (e2 wz (e2 yg (eV 0) (eC (.int 0))) (eC (.int 4))))) (kj 5 (eC (.int 0))) (qh)) (yb (qg (tV (e2 jz (eG xg (qa (eV 0) (ya))) (eC (.int 5)))) (kj 6 (eC (.int 1))) (qh)) (yb (qg (tV (e2 jz (eG xg (qa (eV 0) (ya))) (eC (.int 9)))) (kj 7 (eC (.int 5))) (qh)) (ji (yF (qa (e2 yg (eV 0) (eC (.int 0))) (qa (wc FN.qN 1 (qa (jm (eV 0) (ve (eC (.int 1))) (ve (eC (.int 5)))) (ya))) (qa (wc FN.qN 1 (qa (jm (eV 0) (ve (eC (.int 5))) (ve (eC (.int 9)))) (ya))) (ya))))))))
def xq : DF := wC 1 1 zI
def jw : FS := yb (qa2 (qD (gT 2 (qe 3 (qe 4 (ju)))) (wc FN.vz 2 (qa (eV 0) (qa (eV 1) (ya))))) (qaK (mxL [(1, true), (2, true), (3, true)]) (ji (yF (qa (eC .none) (qa (eV 1) (ya))))) (ybG))) (yb (qg (tV (e2 wz (eV 3) (eV 2))) (ji (yF (qa (eC .none) (qa (eV 1) (ya))))) (qh)) (ji (yF (qa (eV 3) (qa (eV 4) (ya))))))
def vm : DF := wC 3 5 jw
def qaf : FS := yb (qD (gT 2 (qe 1 (qe 2 (ju)))) (wc FN.vm 3 (qa (eV 0) (qa (eC (.int 9)) (qa (eC (.int 15)) (ya)))))) (yb (qg (tV (e2 wV (eV 1) (eC .none))) (kj 8 (eC (.int 9))) (qh)) (yb (qD (gT 2 (qe 3 (qe 4 (ju)))) (wc FN.vm 3 (qa (eV 0) (qa (eV 2) (qa (eC (.int 16777215)) (ya)))))) (yb (qg (tV (e2 wV (eV 3) (eC .none))) (kj 9 (eV 2)) (qh)) (yb (qD (gT 2 (qe 5 (qe 6 (ju)))) (wc FN.vm 3 (qa (eV 0) (qa (eV 4) (qa (eC (.int 1099511627775)) (ya)))))) (yb (qg (tV (e2 wV (eV 5) (eC .none))) (kj 10 (eV 4)) (qh)) (yb (qD (gT 2 (qe 7 (qe 8 (ju)))) (wc FN.vm 3 (qa (eV 0) (qa (eV 6) (qa (eC (.int 16777215)) (ya)))))) (yb (qg (tV (e2 wV (eV 7) (eC .none))) (kj 11 (eV 6)) (qh)) (ji (yF (qa (eV 1) (qa (eV 3) (qa (eV 5) (qa (eV 7) (qa (eV 8) (ya)))))))))))))))
def jP : DF := wC 1 9 qaf
def qan : FS := yb (qD (gT 2 (qe 2 (qe 3 (ju)))) (wc FN.vm 3 (qa (eV 0) (qa (eV 1) (qa (eC (.int 1024)) (ya)))))) (yb (qg (tV (e2 wV (eV 2) (eC .none))) (kj 13 (eV 1)) (qh)) (yb (qg (tV (e2 wz (e2 xb (eV 3) (eV 2)) (eG xg (qa (eV 0) (ya))))) (kj 14 (eV 3)) (qh)) (ji (yF (qa (jm (eV 0) (ve (eV 3)) (ve (e2 xb (eV 3) (eV 2)))) (qa (e2 xb (eV 3) (eV 2)) (ya)))))))
def xM : DF := wC 2 4 qan
def xbc : FS := yb (qD (gT 3 (qe 1 (qe 2 (qe 3 (ju))))) (wc FN.xq 1 (qa (eV 0) (ya)))) (yb (qD (gT 5 (qe 4 (qe 5 (qe 6 (qe 7 (qe 8 (ju))))))) (wc FN.jP 1 (qa (eV 0) (ya)))) (yb (qg (zB (tV (e2 vO (eV 8) (eG xg (qa (eV 0) (ya))))) (tV (e2 wz (e2 yg (eV 0) (eV 8)) (eC (.int 1))))) (kj 12 (eV 8)) (qh)) (yb (yc 9 (e2 yg (eV 0) (eV 8))) (yb (qD (gT 2 (qe 10 (qe 11 (ju)))) (wc FN.xM 2 (qa (eV 0) (qa (e2 xb (eV 8) (eC (.int 1))) (ya))))) (yb (qg (tV (e2 gNe (jm (eV 0) (ve (eV 11)) (jj)) (wc FN.jD 1 (qa (wc FN.kcf 1 (qa (jm (eV 0) (jj) (ve (eV 11))) (ya))) (ya))))) (kj 15 (eV 11)) (qh)) (ji (yF (qa (eV 1) (qa (eV 2) (qa (eV 3) (qa (eV 4) (qa (eV 5) (qa (eV 6) (qa (eV 7) (qa (eV 9) (qa (eV 10) (ya)))))))))))))))))
end
noncomputable section
def j1 : FS := yb (qD (gT 9 (qe 1 (qe 2 (qe 3 (qe 4 (qe 5 (qe 6 (qe 7 (qe 8 (qe 9 (ju))))))))))) (eV 0)) (yb (yc 10 (jg (qa (eV 1) (ya)))) (yb (qz (yM (jg (qa (eV 2) (qa (eV 3) (ya))))) (gN 11) (yc 10 (e2 xb (eV 10) (zz [12] (wF 12) (wi (qa (eC (.int 4)) (ya))) (fun _ => some (.ok true)) (e2 jx (e2 vF (eV 11) (e2 jq (eC (.int 8)) (eV 12))) (eC (.int 255))))))) (yb (qz (yM (jg (qa (eV 4) (qa (eV 5) (qa (eV 6) (qa (eV 7) (ya))))))) (gN 13) (yc 10 (e2 xb (eV 10) (wc FN.vP 1 (qa (eV 13) (ya)))))) (yb (yc 10 (e2 xb (e2 xb (e2 xb (eV 10) (jg (qa (eV 8) (ya)))) (wc FN.vP 1 (qa (eG xg (qa (eV 9) (ya))) (ya)))) (eV 9))) (ji (e2 xb (eV 10) (zz [12] (wF 12) (wi (qa (eC (.int 4)) (ya))) (fun _ => some (.ok true)) (e2 jx (e2 vF (wc FN.zD 1 (qa (eV 10) (ya))) (e2 jq (eC (.int 8)) (eV 12))) (eC (.int 255))))))))))
def kB : DF := wC 1 14 j1
def qH : FS := yb (yc 3 (e2 xb (e2 xb (wc FN.je 3 (qa (eV 0) (qa (eV 1) (qa (eC (.int 65536)) (ya))))) (e2 jq (eC (.int 65536)) (wc FN.je 3 (qa (eV 0) (qa (e2 xb (eV 1) (eC (.int 1))) (qa (eC (.int 65536)) (ya))))))) (e2 jq (eC (.int 4294967296)) (wc FN.je 3 (qa (eV 0) (qa (eV 1) (qa (eC (.int 256)) (ya)))))))) (ji (e2 vF (e2 jx (eV 3) (e2 gSub (e2 zV (eC (.int 1)) (eV 2)) (eC (.int 1)))) (e2 yg (jg (qa (eC (.int 0)) (qa (e2 gSub (eV 2) (eC (.int 7))) (qa (wc FN.je 3 (qa (eV 0) (qa (e2 xb (eV 1) (eC (.int 1))) (qa (eV 2) (ya))))) (ya))))) (wc FN.je 3 (qa (eV 0) (qa (eV 1) (qa (eC (.int 3)) (ya))))))))
def yC : DF := wC 3 4 qH
def zan : FS := yb (yc 2 (wc FN.je 3 (qa (eV 0) (qa (eV 1) (qa (eC (.int 5)) (ya)))))) (yb (yc 3 (wc FN.yC 3 (qa (eV 0) (qa (e2 xb (eV 1) (eC (.int 1))) (qa (eC (.int 32)) (ya)))))) (yb (yc 4 (wc FN.yC 3 (qa (eV 0) (qa (e2 xb (eV 1) (eC (.int 3))) (qa (eC (.int 32)) (ya)))))) (yb (yc 5 (wc FN.je 3 (qa (eV 0) (qa (e2 xb (eV 1) (eC (.int 5))) (qa (eC (.int 16)) (ya)))))) (yb (yc 6 (wc FN.yC 3 (qa (eV 0) (qa (e2 xb (eV 1) (eC (.int 6))) (qa (eC (.int 24)) (ya)))))) (yb (yc 7 (wc FN.yC 3 (qa (eV 0) (qa (e2 xb (eV 1) (eC (.int 8))) (qa (eC (.int 40)) (ya)))))) (yb (yc 8 (wc FN.yC 3 (qa (eV 0) (qa (e2 xb (eV 1) (eC (.int 10))) (qa (eC (.int 24)) (ya)))))) (yb (yc 9 (wc FN.je 3 (qa (eV 0) (qa (e2 xb (eV 1) (eC (.int 12))) (qa (eC (.int 9)) (ya)))))) (yb (qg (tV (e2 qu (wc FN.je 3 (qa (eV 0) (qa (e2 xb (eV 1) (eC (.int 12))) (qa (eC (.int 24)) (ya))))) (eC (.int 23)))) (yc 9 (e2 xb (eC (.int 120)) (wc FN.je 3 (qa (eV 0) (qa (e2 xb (eV 1) (eC (.int 13))) (qa (eC (.int 905)) (ya))))))) (qh)) (yb (yc 10 (zz [11] (wF 11) (wi (qa (eV 9) (ya))) (fun _ => some (.ok true)) (e2 jx (eG kN (qa (e2 xb (wc FN.je 3 (qa (eV 0) (qa (e2 xb (eV 1) (eC (.int 13))) (qa (eC (.int 65536)) (ya))))) (e2 jq (eV 11) (eV 11))) (ya))) (e2 yg (jg (qa (eC (.int 255)) (qa (eC (.int 1)) (qa (eC (.int 7)) (ya))))) (e2 zW (eG kN (qa (eV 11) (ya))) (eC (.int 3))))))) (ji (yF (qa (eV 2) (qa (eV 3) (qa (eV 4) (qa (eV 5) (qa (eV 6) (qa (eV 7) (qa (eV 8) (qa (wc FN.je 3 (qa (eV 0) (qa (e2 xb (eV 1) (eC (.int 14))) (qa (eC (.int 2)) (ya))))) (qa (eV 10) (ya)))))))))))))))))))))
def kM : DF := wC 2 12 zan
def wab : FS := yb (yc 3 (eC (.int 0))) (yb (qz (wi (qa (eC (.int 6)) (ya))) (gN 4) (qg (tV (e2 jz (e2 xb (eV 1) (eV 4)) (eG xg (qa (eV 0) (ya))))) (yb (yc 3 (e2 xb (eV 3) (e2 zV (e2 jx (e2 yg (eV 0) (e2 xb (eV 1) (eV 4))) (eC (.int 127))) (e2 jq (eC (.int 7)) (eV 4))))) (qg (tV (e2 jz (e2 yg (eV 0) (e2 xb (eV 1) (eV 4))) (eC (.int 128)))) (yb (qg (zB (tV (e2 vO (eV 3) (eV 2))) (waw (tV (e2 wz (eV 4) (eC (.int 0)))) (tV (e2 qu (e2 yg (eV 0) (e2 xb (eV 1) (eV 4))) (eC (.int 0)))))) (ji (eC .none)) (qh)) (ji (yF (qa (eV 3) (qa (e2 xb (e2 xb (eV 1) (eV 4)) (eC (.int 1))) (ya)))))) (qh))) (qh))) (ji (eC .none)))
def vx : DF := wC 3 5 wab
end
end FN
namespace DL
open PySem PySem.Spec PyProof.Rows L2
section
variable {X : Cx} {Cl : Nat → Addr} {W : WX} {K : PySem.W.Frag} {pos : Pos} {e : Expr} {es : List Expr} {g : FA}
end
section
variable {X : Cx} {Cl : Nat → Addr} {W : WX} {K : PySem.W.Frag} {pos : Pos} {a b : Expr} {fa fb : FE}
@[simp] def qdb (a b : Val) : Option Val := match a, b with
  | .s (.tuple xs), .s (.tuple ys) => if (!xs.isEmpty && !ys.isEmpty && yo (xs.length + ys.length)) = true then some (.s (.tuple (xs ++ ys))) else none
  | _, _ => none
@[simp] def xdQ (a b : Val) : Option Val := (xb a b).or (qdb a b)
end
section
variable {X : Cx} {Cl : Nat → Addr} {W : WX} {K : PySem.W.Frag} {pos : Pos} {a b c : Expr} {fa fb fc : FE}
def va2 : List Nat → List D → jc → jc
  | i :: is, d :: ds, ρ => va2 is ds (ρ.set i (.dat d))
  | _, _, ρ => ρ
def stT (is : List Nat) : jc → D → Option jc := fun ρ d => match d with
  | .tuple ds => if ds.length = is.length then some (va2 is ds ρ) else none
  | _ => none
def qbH : List Nat → TGs
  | [] => gNil
  | i :: is => gCons (gName i) (qbH is)
theorem ybe {i : Nat} {x : Option V} : ∀ {σ : L2.St} {vs : List Nat}, i ∈ vs → wipe (σ.set i x) vs = wipe σ vs
  | σ, v :: vs, m => by
    have out : ∀ {ws : List Nat}, i ∉ ws → wipe (σ.set i x) ws = (wipe σ ws).set i x := fun {ws} h => by
      induction ws with
      | nil => rfl
      | cons w ws ih =>
        unfold wipe
        rw [ih fun z => h (List.mem_cons_of_mem _ z), List.set_comm _ _ fun z => h (by rw [z]; exact List.mem_cons_self)]
    unfold wipe
    by_cases hm : i ∈ vs
    · rw [ybe hm]
    · have e : i = v := (List.mem_cons.mp m).resolve_right hm
      subst e
      rw [out hm, List.set_set]
theorem wcq (σ : L2.St) (vs : List Nat) : wipe (wipe σ vs) vs = wipe σ vs := by
  have go : ∀ ws : List Nat, (∀ w ∈ ws, w ∈ vs) → wipe (wipe σ ws) vs = wipe σ vs := fun ws => by
    induction ws with
    | nil => exact fun _ => rfl
    | cons w ws ih =>
      intro h
      show wipe ((wipe σ ws).set w none) vs = _
      rw [ybe (h w List.mem_cons_self)]
      exact ih fun z hz => h z (List.mem_cons_of_mem _ hz)
  exact go vs fun _ h => h
theorem zbH {vs : List Nat} {Z : Addr → Prop} {σ0 : L2.St} {H : Hp} {Q : L2.St → Hp → Prop} {S : (Addr → Prop) → Prop} : ∀ (is : List Nat) (ds : List D) (xs : List V) (σ : L2.St) (ρ : jc), (∀ i ∈ is, i ∈ vs) → (∀ i ∈ vs, ∀ s, ρ[i]? = some s → ¬ s.j6) → ds.length = is.length →
    DI K Cl Z H σ ρ → DpAll K (hide H (Zo Z σ ρ)) xs ds → wipe σ vs = wipe σ0 vs →
    (∀ σ', wipe σ' vs = wipe σ0 vs → DI K Cl Z H σ' (va2 is ds ρ) → zd (hide H (Zo Z σ ρ)) (hide H (Zo Z σ' (va2 is ds ρ))) → (∀ b, Zo Z σ ρ b → Zo Z σ' (va2 is ds ρ) b) → Q σ' H) → qbH is xs σ H Q
  | [], [], xs, σ, ρ, _, _, _, I, h, w, q => by
    cases h
    exact ⟨rfl, q σ w I (zd.refl _) fun _ z => z⟩
  | i :: is, d :: ds, xs, σ, ρ, hi, hn, hl, I, h, w, q => by
    cases h with
    | @cons v vr _ _ a b =>
      refine ⟨v, vr, rfl, ?_⟩
      have ni := hn i (hi i List.mem_cons_self)
      refine zbH (S := S) is ds vr (σ.set i (some v)) (ρ.set i (.dat d)) (fun j hj => hi j (List.mem_cons_of_mem _ hj)) (fun j hj es e => ?_) (by simpa using hl) (I.yz a) (DpAll.same yaz b) ((ybe (hi i List.mem_cons_self)).trans w) fun σ' w' I' s' z' => ?_
      · by_cases hij : i = j
        · subst hij
          rw [List.getElem?_set, if_pos rfl] at e
          split at e
          · cases e
            exact fun z => nomatch z
          · cases e
        · rw [List.getElem?_set_ne hij] at e
          exact hn j hj es e
      · exact q σ' w' I' (yaz.trans s') fun b hb => z' b (xb8 ni b hb)
theorem qcZ {vs is : List Nat} (hi : ∀ i ∈ is, i ∈ vs) : LcT K vs (gTup K is.length (qbH is)) (stT is) := ⟨fun Cl Z σ ρ ρ' H v d Q B hd e q => by
  unfold stT at e
  split at e
  · rename_i ds
    split at e
    · rename_i hl
      cases e
      obtain ⟨a, xs, rfl, h1, h2⟩ := hd.kD
      refine ⟨a, xs, rfl, SqT.same kf h1, by rw [h2.length]; exact hl, ?_⟩
      exact zbH (S := fun _ => True) (σ0 := σ) is ds xs (wipe σ vs) (ym ρ vs) hi (fun i m => xbe m) hl B h2 (wcq σ vs) q
    · cases e
  · cases e⟩
end
section
variable {X : Cx} {Cl : Nat → Addr} {W : WX} {K : PySem.W.Frag} {pos apos : Pos} {o e : Expr} {fo fe : FE}
@[simp] def wdS : List Val → Option Val
  | [v] => match v.d with
    | .str x => if x.length = 1 then some (.s (.int (x.cps.getD 0 0 : Nat))) else none
    | _ => none
  | _ => none
end
section
variable {K : PySem.W.Frag} {Cl : Nat → Addr}
@[simp] def vdS (a b : Val) : Option Val := match a.d, b.d with
  | .bool x, .bool y => some (.s (.bool (decide (x = y))))
  | _, _ => none
@[simp] def qdR (a b : Val) : Option Val := match a.d, b.d with
  | .bool x, .bool y => some (.s (.bool (!decide (x = y))))
  | _, _ => none
end
section
variable {X : Cx} {Cl : Nat → Addr} {W : WX} {e tg : Expr} {es : List Expr} {f : FE} {g : FA} {p pos : Pos} {K : PySem.W.Frag}
def jdb (lo : Int) (n : Nat) : List D := (List.range n).map fun (i : Nat) => .int (lo - (i : Int))
@[simp] def qdC (g : FA) (ρ : jc) : Option (Except Er (List D)) := match g ρ with
  | none => none
  | some (.error e) => some (.error e)
  | some (.ok vs) => match vs with
    | [v, u, w] => match v.d, u.d, w.d with
      | .int i, .int j, .int k => if (zab i && (zab j && k == -1)) = true then some (.ok (jdb i (i - j).toNat)) else none
      | _, _, _ => none
    | _ => none
def ka2 (ds es : List D) : List D := (ds.zip es).map fun p => .tuple [p.1, p.2]
theorem ycZ {Hs : Hp} {a b : Addr} {xs ys : List V} {ds es : List D} (h1 : Rd Hs a (.lst xs)) (h2 : DpAll K Hs xs ds) (h3 : Rd Hs b (.lst ys)) (h4 : DpAll K Hs ys es) : ja2 K Hs (Itz K a b) (ka2 ds es) := fun Z' H' s live => by
  have q : SqL K H' a xs := .inl (Rd.same (s.trans kf) h1)
  have r : SqL K H' b ys := .inl (Rd.same (s.trans kf) h3)
  have hl : (ka2 ds es).length = min xs.length ys.length := by
    unfold ka2
    rw [List.length_map, List.length_zip, h2.length, h4.length]
  refine ⟨fun i hi => ?_, fun i hi => ?_, fun i x H'' d y hd => ?_⟩
  · rw [hl] at hi
    exact ⟨xs, ys, xs[i]'(by omega), ys[i]'(by omega), q, r, List.getElem?_eq_getElem _, List.getElem?_eq_getElem _⟩
  · rw [hl] at hi
    exact ⟨xs, ys, q, r, by omega⟩
  · obtain ⟨T, z, w, rfl, nT, rfl, y1, y2⟩ := y
    have e3 := y1 xs q
    have e4 := y2 ys r
    obtain ⟨d', e1, e2⟩ := h2.get' e3
    obtain ⟨c', f1, f2⟩ := h4.get' e4
    unfold ka2 at hd
    rw [List.getElem?_map] at hd
    have ez : (ds.zip es)[i]? = some (d', c') := by
      rw [List.getElem?_zip_eq_some]
      exact ⟨e1, f1⟩
    rw [ez] at hd
    cases hd
    have nz : ¬ Z' T := fun z => live T z nT
    refine ⟨fun _ => jv nT, .tup (SqT.of (ze nz upd_same)) (.cons ?_ (.cons ?_ .nil))⟩
    · exact Dp.same (s.trans (vd (xC nT) fun _ h => .inl h)) e2
    · exact Dp.same (s.trans (vd (xC nT) fun _ h => .inl h)) f2
@[simp] def wba : Val → Option (List D)
  | .s (.list ds) => some ds
  | .f ds => some ds
  | _ => none
theorem qx.lst {Z : Addr → Prop} {σ : St} {ρ : jc} {H H1 : Hp} {x : V} {v : Val} {ds : List D} (I : DI K Cl Z H σ ρ) (h : qx K Z σ ρ H H1 x v) (e : wba v = some ds) : ∃ a xs, x = .ref a ∧ Rd (hide H1 (Zo Z σ ρ)) a (.lst xs) ∧ DpAll K (hide H1 (Zo Z σ ρ)) xs ds := by
  unfold wba at e
  split at e
  · cases e
    obtain ⟨a, xs, rfl, h1, h2⟩ := Dp.lst_inv (show Dp K (hide H1 (Zo Z σ ρ)) x (.list ds) from h)
    exact ⟨a, xs, rfl, h1, h2⟩
  · cases e
    obtain ⟨a, xs, rfl, n, h1, h2⟩ := h
    have np : ¬ Zo Z σ ρ a := fun z => I.jZ z n
    have sm : zd (hide H1 (ZP (Zo Z σ ρ) a)) (hide H1 (Zo Z σ ρ)) := vd (zd.refl _) fun _ h => .inl (.inl h)
    exact ⟨a, xs, rfl, Rd.of (ze np h1), DpAll.same sm h2⟩
  · cases e
@[simp] def waT (g : FA) (ρ : jc) : Option (Except Er (List D)) := match g ρ with
  | none => none
  | some (.error e) => some (.error e)
  | some (.ok vs) => match vs with
    | [v, u] => match wba v, wba u with
      | some ds, some es => some (.ok (ka2 ds es))
      | _, _ => none
    | _ => none
theorem xcZ {a b : Expr} {elts : List Expr} {kk : Nat} {tpos : Pos} (hm : X.mg "zip" = none) (ha : DA X Cl W [a, b] g) (hg : Gl X "zip" := by rfl)
    (hs : starEach [a, b] X.env = (false, eval a X.env) :: starEach [b] X.env := by rfl) (hpl : (backTo pos (starEach [b] X.env)).any (·.1) = false := by rfl) :
    DIt X Cl W (.Tuple elts kk tpos) (.Call (.Name "zip" p) [a, b] [] pos) (waT g) :=
  PI.imp (pi_zip hg hm ha hs hpl) fun σ H R ⟨Z, ρ, r, I, e, q⟩ => by
    unfold waT at e
    cases e1 : g ρ with
    | none => rw [e1] at e; cases e
    | some r1 =>
      rw [e1] at e
      refine yB I e1 (fun er z => ?_) fun vs xs H1 ev s1 hvs I1 => ?_
      · subst z
        cases e
        exact q
      · subst ev
        dsimp only at e
        split at e
        · rename_i v u
          obtain ⟨x, y, rfl, h, h'⟩ := hvs.two
          split at e
          · rename_i ds es el er
            cases e
            obtain ⟨a1, xs, rfl, r1, r2⟩ := h.lst I el
            obtain ⟨b1, ys, rfl, r3, r4⟩ := h'.lst I er
            exact ⟨a1, b1, xs, ys, rfl, .inl (Rd.same kf r1), .inl (Rd.same kf r3), q _ H1 s1 (ycZ r1 r2 r3 r4)⟩
          · cases e
        · cases e
@[simp] def ydS (a b : Val) : Option Val := match b.d with
  | .list ds => if (SeqAt.shaped a.d && SeqAt.shaped (.list ds)) = true then some (.s (.bool (ds.any fun z => PyData.eqv z a.d))) else none
  | _ => none
@[simp] def zdC (a b : Val) : Option Val := match b.d with
  | .list ds => if (SeqAt.shaped a.d && SeqAt.shaped (.list ds)) = true then some (.s (.bool (!ds.any fun z => PyData.eqv z a.d))) else none
  | _ => none
end
end DL
namespace FN
open PySem PySem.Spec PyProof.Rows L2 DL
noncomputable section
def waa : FS := yb (yc 2 (e2 jV (eV 0) (eC (.int 4294967295)))) (yb (qz (yM (eV 1)) (gN 3) (yb (yc 2 (e2 jV (eV 2) (eV 3))) (yb (yc 2 (e2 jV (e2 vF (eV 2) (eC (.int 4))) (e2 yg (eC zX) (e2 jx (eV 2) (eC (.int 15)))))) (yc 2 (e2 jV (e2 vF (eV 2) (eC (.int 4))) (e2 yg (eC zX) (e2 jx (eV 2) (eC (.int 15))))))))) (ji (e2 jV (eV 2) (eC (.int 4294967295)))))
def jaa : DF := wC 2 4 waa
def va0 : FS := ji (wc FN.jaa 2 (qa (eC (.int 0)) (qa (eV 0) (ya))))
def yK : DF := wC 1 1 va0
def vaU : FS := yb (yc 1 (zz [2, 3] (stT [2, 3]) (wa2 (qa (eV 0) (ya))) (tV (e2 qu (eV 3) (eC (.int 0)))) (eV 2))) (ji (zz [4, 5] (stT [4, 5]) (waT (qa (eV 1) (qa (jm (eV 1) (ve (eC (.int 1))) (jj)) (ya)))) (tV (e2 jz (e2 xb (eV 4) (eC (.int 1))) (eV 5))) (yF (qa (e2 xb (eV 4) (eC (.int 1))) (qa (eV 5) (ya))))))
def qaj : DF := wC 1 6 vaU
def yaR : FS := yb (qD (gT 3 (qe 1 (qe 2 (qe 3 (ju))))) (wc FN.xq 1 (qa (eV 0) (ya)))) (yb (qD (gT 5 (qe 4 (qe 5 (qe 6 (qe 7 (qe 8 (ju))))))) (wc FN.jP 1 (qa (eV 0) (ya)))) (yb (qg (zB (tV (e2 vO (eV 8) (eG xg (qa (eV 0) (ya))))) (tV (e2 wz (e2 yg (eV 0) (eV 8)) (eC (.int 1))))) (kj 12 (eV 8)) (qh)) (yb (yc 9 (e2 yg (eV 0) (eV 8))) (yb (qD (gT 2 (qe 10 (qe 11 (ju)))) (wc FN.xM 2 (qa (eV 0) (qa (e2 xb (eV 8) (eC (.int 1))) (ya))))) (yb (qg (tV (e2 gNe (jm (eV 0) (ve (eV 11)) (jj)) (wc FN.jD 1 (qa (wc FN.yK 1 (qa (jm (eV 0) (jj) (ve (eV 11))) (ya))) (ya))))) (kj 15 (eV 11)) (qh)) (ji (yF (qa (eV 1) (qa (eV 2) (qa (eV 3) (qa (eV 4) (qa (eV 5) (qa (eV 6) (qa (eV 7) (qa (eV 9) (qa (eV 10) (ya)))))))))))))))))
def xB : DF := wC 1 12 yaR
end
end FN
namespace DL
open PySem PySem.Spec PyProof.Rows L2
section
variable {X : Cx} {Cl : Nat → Addr} {W : WX} {K : PySem.W.Frag}
structure jdD (ds : List D) : Prop where
  al : PySem.W.AllAlike ds
  so : PySem.W.Sortable ds
  dp : ∀ d ∈ ds, PyData.depth d ≤ 50
  ln : ds.length ≤ 16777216
  ly : PyData.canLayAll0 ds = true
theorem DpAll.zip : ∀ {H : Hp} {xs : List V} {ds : List D}, DpAll K H xs ds → ∀ x d, (x, d) ∈ xs.zip ds → Dp K H x d
  | _, _, _, .nil, x, d, h => nomatch h
  | _, _, _, .cons h t, x, d, hm => by
    rcases List.mem_cons.mp hm with e | hm
    · cases e
      exact h
    · exact t.zip x d hm
end
section
variable {P : Program} {w : World} {K : PySem.W.Frag} {Cl : Nat → Addr} {mg : Str → Option Value} {base : Heap}
def FnG (P : Program) (w : World) (K : PySem.W.Frag) (mg : Str → Option Value) (base : Heap) (CX : CXT) (k : Nat) (f : Addr) (fd : FuncData) (ps : List Str) (sp : Sp) : Prop :=
  ∀ (A : Around) (o : List Env) (s : Shared) (H : Hp) (ar : Args) (us : List Value) (vs : List V) (Q : VK) (E : XK), Room k A → A.guards = some [] → Env0 P w K mg base A o s H →
    BindsTo s fd ar (ps.zip us) → Vals vs us → sp vs H Q E → codeAny (model P w) A (.call (.ref f) ar) (CR CX o P w H s Q E) s
end
structure wdD (d : D) : Prop where
  ly : PyData.canLay0 d = true
  sh : PyData.showable d = true
  ln : (PyData.shown d).length ≤ 16777216
  dp : PyData.depth d ≤ 50
section
variable {X : Cx} {K : PySem.W.Frag} {Cl : Nat → Addr}
@[simp] def xdS : D → Bool
  | .list _ => true
  | .tuple _ => true
  | _ => false
end
section
variable {P : Program} {w : World} {K : PySem.W.Frag} {Cl : Nat → Addr} {mg : Str → Option Value} {base : Heap} 
theorem FnG.imp {CX : CXT} {k : Nat} {f : Addr} {fd : FuncData} {ps : List Str} {sp sp' : Sp} (F : FnG P w K mg base CX k f fd ps sp) (h : ∀ vs H Q E, sp' vs H Q E → sp vs H Q E) : FnG P w K mg base CX k f fd ps sp' :=
  fun A o s H ar us vs Q E r g e b v p => F A o s H ar us vs Q E r g e b v (h _ _ _ _ p)
end
section
variable {X : Cx} {Cl : Nat → Addr} {W : WX} {K : PySem.W.Frag} {a b e : Expr} {fa fb f : FE} {pos : Pos}
@[simp] def zdR (i : Nat) (f : FE) (ρ : jc) : Option Out := match ρ[i]? with
  | some (.dat (.str a)) => sE f (fun v ρ => match v.d with
    | .str b => if yo (a.length + b.length) = true then some (.nx (ρ.set i (.dat (.str (a ++ b))))) else none
    | _ => none) ρ
  | _ => none
end
section
variable {X : Cx} {Cl : Nat → Addr} {W : WX} {K : PySem.W.Frag}
@[simp] def kdS (i : Nat) (vs : List Nat) (st : jc → D → Option jc) (tt : FT) (fe : FE) (ρ : jc) : Option (Except Er Val) := if noOwn ρ vs = true then match ρ[i]? with
  | some (.own ds) => match lcL tt fe (st (ym ρ vs)) ds with
    | some es => if yo es.length = true then some (.ok (.f es)) else none
    | none => none
  | _ => none else none
variable {elt tg iter : Expr} {ifs : List Expr} {scope : Scope} {own : List (Str × Nat)} {pos : Pos} {g : TG} {tt : FT} {fe : FE} {vs : List Nat} {st : jc → D → Option jc} {i0 : Nat}
end
section
variable {X : Cx} {K : PySem.W.Frag} {Cl : Nat → Addr}
@[simp] def qdT (a b : Val) : Option Val := match a.d, b.d with
  | .str i, .str j => some (.s (.bool (decide (i = j))))
  | _, _ => none
@[simp] def zdT (a b : Val) : Option Val := match a.d, b.d with
  | .str i, .str j => some (.s (.bool (!decide (i = j))))
  | _, _ => none
end
section
variable {X : Cx} {K : PySem.W.Frag} {Cl : Nat → Addr}
end
def zb9 (k : Int) (a e it : Addr) (i : Nat) (h : Heap) : Prop := (∃ old, IsEnum h e it (k + (i : Int)) old) ∧ h.IsListIter it a i ∧ e ≠ it
theorem zb9.cell {k : Int} {a e it : Addr} {i : Nat} {h : Heap} (c : zb9 k a e it i h) {b : Addr} (m : b = e ∨ b = it) : ∃ o, h.get? b = some o ∧ ∀ v, o.data ≠ .cell v := by
  obtain ⟨⟨old, q⟩, ⟨o, q1, q2, q3⟩, _⟩ := c
  rcases m with rfl | rfl
  · exact ⟨_, q, fun v z => nomatch z⟩
  · exact ⟨o, q1, fun v z => by rw [q3] at z; cases z⟩
section
variable {M : Model} {A : Around} {E : Value → Shared → Prop} {s : Shared} {env : Env}
end
def zdh (k : Int) (ds : List D) : List D := ds.zipIdx.map fun p => .tuple [.int (k + (p.2 : Int)), p.1]
section
variable {X : Cx} {Cl : Nat → Addr} {W : WX} {e : Expr} {p pos : Pos} {g : FA}
@[simp] def vdD (k : Int) (g : FA) (ρ : jc) : Option (Except Er (List D)) := match g ρ with
  | some (.ok vs) => match vs with
    | [.s (.list ds)] => some (.ok (zdh k ds))
    | _ => none
  | _ => none
end
section
variable {X : Cx} {Cl : Nat → Addr} {W : WX} {K : PySem.W.Frag} {pos : Pos}
def jc0 (y x : Str) : Bool := !(Builtin.Str.occurrences y x 0 y.length 1).isEmpty
@[simp] def jdT (a b : Val) : Option Val := match a.d, b.d with
  | .str i, .str j => some (.s (.bool (jc0 j i)))
  | _, _ => none
@[simp] def jdC (a b : Val) : Option Val := match a.d, b.d with
  | .str i, .str j => some (.s (.bool (!jc0 j i)))
  | _, _ => none
end
end DL
namespace DL
open PySem PySem.Spec PyProof.Rows L2
section
variable {X : Cx} {Cl : Nat → Addr} {W : WX} {K : PySem.W.Frag} {e : Expr} {es : List Expr} {f : FE} {pos p : Pos} {ta : TA}
def excOf : D → Option (Addr × Int)
  | .dict [(.str _, .int i), (.int (.ofNat C), .none)] => some (C, i)
  | _ => none
@[simp] theorem kdd (C : Addr) (i : Int) : excOf (qdh C i) = some (C, i) := rfl
end
end DL
namespace DL
open PySem PySem.Spec PyProof.Rows L2
end DL
namespace DL
open PySem PySem.Spec PyProof.Rows L2
mutual
def ybh : D → Bool
  | .none => true | .bool _ => true | .int _ => true | .str _ => true
  | .tuple ds => jaQ ds
  | _ => false
def jaQ : List D → Bool
  | [] => true
  | d :: ds => ybh d && jaQ ds
end
section
variable {K : PySem.W.Frag} {Cl : Nat → Addr} {Z : Addr → Prop} {H : Hp} {p : Addr} {ys : List V}
theorem kcF {b : Addr} {o : HO} (hp : H p = some (.lst ys)) (e : hide H Z b = some o) (n : o ≠ .lst ys) : hide H (ZP Z p) b = some o := by
  obtain ⟨h1, h2⟩ := zi e
  refine ze (fun z => ?_) h2
  rcases z with z | z
  · exact h1 z
  · rw [z, hp] at h2
    exact n (Option.some.inj h2).symm
mutual
theorem Dp.free (hp : H p = some (.lst ys)) : ∀ {v : V} {d : D}, ybh d = true → Dp K (hide H Z) v d → Dp K (hide H (ZP Z p)) v d
  | _, _, _, .non => .non
  | _, _, _, .bl b => .bl b
  | _, _, _, .int i => .int i
  | _, _, _, .str x => .str x
  | _, _, c, .lst h t => nomatch c
  | _, _, c, .tup h t => by
    refine .tup ?_ (DpAll.free hp c t)
    rcases h with (h | ⟨o, h⟩) | h
    · exact .inl (.inl (kcF hp h fun z => by cases z))
    · exact .inl (.inr ⟨o, kcF hp h fun z => by cases z⟩)
    · exact .inr h
  | _, _, c, .qW h => nomatch c
  | _, _, c, .exc _ _ => nomatch c
theorem DpAll.free (hp : H p = some (.lst ys)) : ∀ {vs : List V} {ds : List D}, jaQ ds = true → DpAll K (hide H Z) vs ds → DpAll K (hide H (ZP Z p)) vs ds
  | _, _, _, .nil => .nil
  | _, _, c, .cons h t => by
    have c' : (ybh _ && jaQ _) = true := c
    rw [Bool.and_eq_true] at c'
    exact .cons (Dp.free hp c'.1 h) (DpAll.free hp c'.2 t)
end
end
section
variable {K : PySem.W.Frag} {Cl : Nat → Addr}  {W : WX} {H0 H1 : Hp} {Z : Addr → Prop} {H H' : Hp} {σ : St} {ρ : jc} {D : Ends}
end
section
variable {X : Cx} {Cl : Nat → Addr} {W : WX} {K : PySem.W.Frag}  {pos : Pos} {e : Expr} {es : List Expr} {g : FA}
end
def wc0 : List Int → Int
  | [] => 0
  | n :: ns => ns.foldl (fun a y => if a < y then y else a) n
@[simp] def wdR : List Val → Option Val
  | [v] => match v.d with
    | .list ds => match vad ds with
      | some ns => if ns.length = 0 then none else some (.s (.int (wc0 ns)))
      | none => none
    | _ => none
  | _ => none
section
variable {X : Cx} {Cl : Nat → Addr} {W : WX} {K : PySem.W.Frag} {e : Expr} {f : FE}
theorem Room.u2 {k : Nat} {A : Around} (r : Room k A) : A.units + 2 < cLine := by have := r.un; omega
@[simp] def kdD (d : Int) (v : Val) : Option Val := match v.d with
  | .list ds => match vad ds with
    | some ns => some (.s (.int (if ns = [] then d else wc0 ns)))
    | none => none
  | _ => none
end
section
variable {X : Cx} {K : PySem.W.Frag}
end
section
variable {P : Program} {w : World} {A : Around} {E : Value → Shared → Prop} {env : Env}
end
structure vdR (x : Str) (e : Expr) (k : D → Option D) : Prop where
  run : ∀ {P : Program} {w : World} {A : Around} {E : Value → Shared → Prop} {env : Env} {s : Shared} {m : Str → Option Value} {u : Value} {d kd : D} {as : List Addr} {Q : Value → Shared → Prop}, env.scope.kind = .function → env.kindOf x = some .local → s.heap.Ns env.locals m → m x = some u → Reads s.heap u d as → k d = some kd →
    (∀ v h' tk, (∀ b o, s.heap.get? b = some o → h'.get? b = some o) → Reads h' v kd [] → Q v { s with heap := h', toks := tk }) → wpAny (model P w) A (eval e env) Q E s
def kI (i : Nat) : D → Option D
  | .tuple ds => match ds[i]? with
    | some d => if vj d = true then some d else none
    | none => none
  | _ => none
structure wdT (scope : Scope) (x : Str) : Prop where
  kind : scope.kind = .function
  co : scope.isCoroutine = false
  gen : scope.isGenerator = false
  cell : ∀ y ∈ scope.names, y.2 ≠ .cell
  loc : scope.names.lookup x = some .local
  free : ∀ y ∈ scope.names, y.2 ≠ .free
section
variable {P : Program} {w : World} {A : Around}
end
structure qcG (P : Addr) (q : Str) (H H1 : Hp) : Prop where
  old : ∀ b o, H b = some o → b ≠ P → H1 b = some o
  tab : LamX.TabS H1 P q
  nf : ∀ b o xs, H1 b = some (.frz o (.lst xs)) → H b = some (.frz o (.lst xs))
  was : ∃ ps, H P = some (.tbl ps)
theorem qcG.same {Cl : Nat → Addr} {P : Addr} {q : Str} {H H1 : Hp} (t : qcG P q H H1) (hu : ∀ p ∈ LQ, Cl p.1 = P → p.2 = q) : Same Cl H H1 := by
  obtain ⟨ps, hP⟩ := t.was
  have nP : ∀ {b : Addr} {o : HO}, H b = some o → (∀ ps, o ≠ .tbl ps) → b ≠ P := fun {b o} e n z => by
    rw [z, hP] at e
    exact n ps (Option.some.inj e).symm
  refine ⟨fun b o e n => t.old b o e (nP e fun ps z => by rw [z] at n; cases n), fun T p hp n => ?_, fun b e => ?_, t.nf⟩
  · by_cases hb : Cl p.1 = P
    · rw [hu p hp hb, hb]
      exact t.tab
    · obtain ⟨ps', h1, h2, h3⟩ := T p hp n
      refine ⟨ps', t.old _ _ h1 hb, h2, fun pos cv hc => ?_⟩
      obtain ⟨c, e1, e2⟩ := h3 pos cv hc
      exact ⟨c, e1, t.old _ _ e2 (nP e2 fun ps => LamX.codeO_ne ps)⟩
  · by_cases hb : b = P
    · obtain ⟨ps', h1, _⟩ := t.tab
      rw [hb, h1]
      intro z; cases z
    · cases q : H b with
      | none => exact absurd q e
      | some o =>
        rw [t.old b o q hb]
        intro z; cases z
section
variable {X : Cx} {pins : List (Addr × Obj)} {σ : St} {H : Hp} {s : Shared}
end
def kk (k : D → Option D) (d : D) : D := (k d).getD .none
structure wdC (k : D → Option D) (ds : List D) : Prop where
  ok : ∀ d ∈ ds, (k d).isSome = true
  al : PySem.W.AllAlike (ds.map (kk k))
  so : PySem.W.Sortable (ds.map (kk k))
  dp : ∀ d ∈ ds, PyData.depth (kk k d) ≤ 50
  ln : ds.length ≤ 16777216
  ly : PyData.canLayAll0 ds = true
section
variable {X : Cx} {Cl : Nat → Addr} {W : WX}
end
structure vdT (K : PySem.W.Frag) (x qual : Str) (st : Stmt) (f : Addr) (fd : FuncData) (cd : Value) : Prop where
  ex : ∃ (oc : Value) (od : Option Addr) (kV doc pm : Value) (an : Option Addr) (ct : Value) (osl : Array (Option Value)),
    fd = PySem.W.fnOf x qual (defArgs st) (defBody st) (defScope st) .none kV doc pm an cd ct ∧ K.lookup f = some ⟨oc, od, .func fd, osl⟩ ∧ PySem.W.codeIn K cd qual = true
section
variable {P : Program} {w : World} {K : PySem.W.Frag} {mg : Str → Option Value} {base : Heap} {Cl : Nat → Addr}
end
def noSeq : HO → Bool
  | .tup _ => false
  | .frz _ _ => false
  | _ => true
theorem xN.noSeq {K : PySem.W.Frag} {Cl : Nat → Addr} {Hs : Hp} {a : Addr} {u : HO} {c : Cell} (h : xN K Cl Hs a u c) : DL.noSeq u = true := by
  cases c with
  | set ks =>
    obtain ⟨L, rfl, _, _⟩ := h
    rfl
  | lst ds =>
    obtain ⟨xs, rfl, _⟩ := h
    rfl
section
variable {K : PySem.W.Frag} {Z O : Addr → Prop} {H : Hp}
theorem zcG {b : Addr} {o : HO} (hO : ∀ a, O a → ∃ u, H a = some u ∧ noSeq u = true) (e : hide H Z b = some o) (n : noSeq o = false) : hide H (fun b => Z b ∨ O b) b = some o := by
  obtain ⟨h1, h2⟩ := zi e
  refine ze (fun z => ?_) h2
  rcases z with z | z
  · exact h1 z
  · obtain ⟨u, q, q2⟩ := hO b z
    rw [q] at h2
    cases h2
    rw [n] at q2
    cases q2
mutual
theorem Dp.kbF (hO : ∀ a, O a → ∃ u, H a = some u ∧ noSeq u = true) : ∀ {v : V} {d : D}, ybh d = true → Dp K (hide H Z) v d → Dp K (hide H (fun b => Z b ∨ O b)) v d
  | _, _, _, .non => .non
  | _, _, _, .bl b => .bl b
  | _, _, _, .int i => .int i
  | _, _, _, .str x => .str x
  | _, _, c, .lst h t => nomatch c
  | _, _, c, .tup h t => by
    refine .tup ?_ (DpAll.kbF hO c t)
    rcases h with (h | ⟨o, h⟩) | h
    · exact .inl (.inl (zcG hO h rfl))
    · exact .inl (.inr ⟨o, zcG hO h rfl⟩)
    · exact .inr h
  | _, _, c, .qW h => nomatch c
  | _, _, c, .exc _ _ => nomatch c
theorem DpAll.kbF (hO : ∀ a, O a → ∃ u, H a = some u ∧ noSeq u = true) : ∀ {vs : List V} {ds : List D}, jaQ ds = true → DpAll K (hide H Z) vs ds → DpAll K (hide H (fun b => Z b ∨ O b)) vs ds
  | _, _, _, .nil => .nil
  | _, _, c, .cons h t => by
    have c' : (ybh _ && jaQ _) = true := c
    rw [Bool.and_eq_true] at c'
    exact .cons (Dp.kbF hO c'.1 h) (DpAll.kbF hO c'.2 t)
end
end
section
variable {X : Cx} {Cl : Nat → Addr} {W : WX} {e : Expr} {es : List Expr} {g : FA} {p pos : Pos}
end
section
variable {X : Cx} {Cl : Nat → Addr} {W : WX} {K : PySem.W.Frag}
end
section
variable {P : Program} {w : World} {K : PySem.W.Frag} {mg : Str → Option Value} {base : Heap}
end
section
variable {X : Cx} {e : Expr} {es : List Expr} {ta : TA} {p pos : Pos}
end
section
variable {X : Cx} {Cl : Nat → Addr} {W : WX} {K : PySem.W.Frag} {e : Expr} {es : List Expr} {f : FE} {g : FA} {p pos : Pos}
end
section
variable {P : Program} {w : World} {K : PySem.W.Frag} {mg : Str → Option Value} {base : Heap} {Cl : Nat → Addr}
end
section
variable {P : Program} {w : World} {K : PySem.W.Frag} {mg : Str → Option Value} {base : Heap} {Cl : Nat → Addr}
end
section
variable {X : Cx} {Cl : Nat → Addr} {W : WX}
end
section
variable {P : Program} {w : World} {A : Around} {E : Value → Shared → Prop} {s : Shared} {a : Addr} {L : List (Addr × List Int)} {es : Array (Int × Value)} {ep : Nat} {t : SetTable}
end
section
variable {X : Cx} {b : Bool}
theorem SetTR.ty {P : Program} {w : World} {s : Shared} {a : Addr} {L : List (Addr × List Int)} {es : Array (Int × Value)} {ep : Nat} {t : SetTable} (R : SetTR P w s.heap a L es ep t) : s.TypeIs (.ref a) "set" := by
  obtain ⟨o, h1, h2, _⟩ := R.ob
  exact ⟨o, h1, h2.1⟩
end
section
variable {K : PySem.W.Frag} {Cl : Nat → Addr} {W : WX} {H0 H1 : Hp} {Z : Addr → Prop} {H H' : Hp} {σ : St} {ρ : jc} {D : Ends}
theorem TBl.qbG {H4 : Hp} {L : Addr} {u u' : HO} (t : TBl Cl H4) (hL : H4 L = some u) (n1 : ∀ ps, u ≠ .tbl ps) (n2 : ∀ q, u ≠ LamX.CodeO L q) : TBl Cl (upd H4 L u') := fun p hp n => by
  obtain ⟨ps, h1, h2, h3⟩ := t p hp n
  have a1 : Cl p.1 ≠ L := fun z => by
    rw [z, hL] at h1
    exact n1 _ (Option.some.inj h1)
  refine ⟨ps, by rw [upd_ne a1]; exact h1, h2, fun pos cv hc => ?_⟩
  obtain ⟨c, e1, e2⟩ := h3 pos cv hc
  have a2 : c ≠ L := fun z => by
    rw [z, hL] at e2
    exact n2 _ (Option.some.inj e2)
  exact ⟨c, e1, by rw [upd_ne a2]; exact e2⟩
theorem Same.qbG {H1 H4 : Hp} {L : Addr} {u u' : HO} (s : Same Cl H1 H4) (nL : H1 L = none) (hL : H4 L = some u) (n1 : ∀ ps, u ≠ .tbl ps) (n2 : ∀ q, u ≠ LamX.CodeO L q) (n3 : ∀ o v, u' ≠ .frz o v) : Same Cl H1 (upd H4 L u') := by
  have ne : ∀ {b : Addr}, H1 b ≠ none → b ≠ L := fun {b} e z => e (by rw [z]; exact nL)
  exact ⟨fun b o e n => by rw [upd_ne (ne (by rw [e]; intro z; cases z))]; exact s.d b o e n, fun t => (s.tb t).qbG hL n1 n2, fun b e => (by rw [upd_ne (ne e)]; exact s.live b e), fun b o xs e => (by
    by_cases z : b = L
    · rw [z, upd_same] at e
      exact absurd (Option.some.inj e) (n3 _ _)
    · rw [upd_ne z] at e
      exact s.nf b o xs e)⟩
end
section
variable {X : Cx} {Cl : Nat → Addr} {W : WX} {e : Expr} {fe : FE} {pos : Pos}
end
abbrev TF := List D → Option (List D)
def tfD (F : TF) : DF := fun ds => (F ds).map .retF
section
variable {K : PySem.W.Frag} {Cl : Nat → Addr} {W : WX} {Z Z1 : Addr → Prop} {H0 H H' : Hp} {σ : St} {ρ : jc}
theorem DI.hid (I : DI K Cl Z H σ ρ) (s : Same Cl H H') {S : Addr → Prop} (n : ∀ a, S a → H a = none) (l : ∀ a, S a → H' a ≠ none) : DI K Cl (fun a => Z a ∨ S a) H' σ ρ := by
  have I' := I.same s
  have hm : zd (hide H (Zo Z σ ρ)) (hide H' (Zo (fun a => Z a ∨ S a) σ ρ)) := xl s fun b hb => by
    rcases hb with (hb | hb) | hb
    · exact .inl (.inl hb)
    · exact .inr (n b hb)
    · exact .inl (.inr hb)
  refine ⟨I.len, I.one, fun a o z => z.elim (I.out a o) fun z => I.yaI o (n a z), fun a z => z.elim (I'.live a) (l a), fun i t e => ?_, I'.tb⟩
  have q := I.slots i t e
  cases t with
  | un => trivial
  | dat d =>
    obtain ⟨v, e1, h1⟩ := q
    exact ⟨v, e1, Dp.same hm h1⟩
  | own ds =>
    obtain ⟨a, xs, e1, e2, h1⟩ := q
    exact ⟨a, xs, e1, s.at e2, DpAll.same hm h1⟩
  | err a dd j => exact ⟨q.1, s.at q.2⟩
  | ownT a k gs =>
    obtain ⟨T, e1, h1⟩ := q
    exact ⟨T, e1, h1.same hm fun _ z => s.at z⟩
  | pin a => exact q
  | ob k fs => exact z6.same hm q
  | yV a c =>
    obtain ⟨e1, u, e2, h1⟩ := q
    exact ⟨e1, u, s.yV h1 e2, h1.same hm⟩
theorem DI.less (I : DI K Cl Z1 H σ ρ) (h : ∀ a, Z a → Z1 a) : DI K Cl Z H σ ρ := by
  have hm : zd (hide H (Zo Z1 σ ρ)) (hide H (Zo Z σ ρ)) := vd (zd.refl _) fun b hb => .inl (hb.elim (fun z => .inl (h b z)) .inr)
  refine ⟨I.len, I.one, fun a o z => I.out a o (h a z), fun a z => I.live a (h a z), fun i t e => ?_, I.tb⟩
  have q := I.slots i t e
  cases t with
  | un => trivial
  | dat d =>
    obtain ⟨v, e1, h1⟩ := q
    exact ⟨v, e1, Dp.same hm h1⟩
  | own ds =>
    obtain ⟨a, xs, e1, e2, h1⟩ := q
    exact ⟨a, xs, e1, e2, DpAll.same hm h1⟩
  | err a dd j => exact q
  | ownT a k gs =>
    obtain ⟨T, e1, h1⟩ := q
    exact ⟨T, e1, h1.same hm fun _ z => z⟩
  | pin a => exact q
  | ob k fs => exact z6.same hm q
  | yV a c =>
    obtain ⟨e1, u, e2, h1⟩ := q
    exact ⟨e1, u, e2, h1.same hm⟩
theorem SI.less (I : SI K Cl H0 Z1 H σ ρ) (h : ∀ a, Z a → Z1 a) : SI K Cl H0 Z H σ ρ := ⟨I.di.less h, I.same, I.new⟩
theorem SI.hid (I : SI K Cl H0 Z H σ ρ) (s : Same Cl H H') {S : Addr → Prop} (n : ∀ a, S a → H a = none) (l : ∀ a, S a → H' a ≠ none) : SI K Cl H0 (fun a => Z a ∨ S a) H' σ ρ := ⟨I.di.hid s n l, I.same.trans s, I.new⟩
theorem SI.jbf (I : SI K Cl H0 Z H σ ρ) {q : Addr} {ys zs : List V} (hz : Z q) (h0 : H0 q = none) (hq : H q = some (.lst ys)) : SI K Cl H0 Z (upd H q (.lst zs)) σ ρ := by
  have hm : zd (hide H (Zo Z σ ρ)) (hide (upd H q (.lst zs)) (Zo Z σ ρ)) := fun b o e _ => by
    obtain ⟨n, e1⟩ := zi e
    exact ze n (by rw [upd_ne fun z => n (.inl (by rw [z]; exact hz))]; exact e1)
  have no : ∀ a, qk σ ρ a → a ≠ q := fun a o z => I.di.out a o (by rw [z]; exact hz)
  refine ⟨⟨I.di.len, I.di.one, I.di.out, fun a z => ?_, fun i t e => ?_, I.di.tb.over hq⟩, I.same.over h0 hq, I.new⟩
  · by_cases e : a = q
    · rw [e, upd_same]
      intro z; cases z
    · rw [upd_ne e]
      exact I.di.live a z
  · have k := I.di.slots i t e
    cases t with
    | un => trivial
    | dat d =>
      obtain ⟨v, e1, h1⟩ := k
      exact ⟨v, e1, Dp.same hm h1⟩
    | own ds =>
      obtain ⟨a, xs, e1, e2, h1⟩ := k
      exact ⟨a, xs, e1, by rw [upd_ne (no a ⟨i, .inl ⟨e1, ds, e⟩⟩)]; exact e2, DpAll.same hm h1⟩
    | err a dd j =>
      have nd : dd ≠ q := fun z => by
        have k2 := k.2
        rw [z, hq] at k2
        cases k2
      exact ⟨k.1, by rw [upd_ne nd]; exact k.2⟩
    | ownT a k' gs =>
      obtain ⟨T, e1, h1⟩ := k
      exact ⟨T, e1, h1.same hm fun _ z => by rw [upd_ne (no a ⟨i, .inr (.inl ⟨k', gs, e⟩)⟩)]; exact z⟩
    | pin a => exact k
    | ob k fs => exact z6.same hm k
    | yV a c =>
      obtain ⟨e1, u, e2, h1⟩ := k
      exact ⟨e1, u, by rw [upd_ne (no a ⟨i, .inr (.inr ⟨c, e⟩)⟩)]; exact e2, h1.same hm⟩
end
section
variable {X : Cx} {Cl : Nat → Addr} {W : WX} {K : PySem.W.Frag}
variable {elt tg iter : Expr} {scope : Scope} {own : List (Str × Nat)} {pos rpos : Pos} {it : FI} {g : TG} {fe : FE} {vs : List Nat} {st : jc → D → Option jc}
end
def mkT (n k : Nat) (f : jc → Option (List D)) : TF := fun ds => f (ds.map .dat ++ List.replicate (k - n) .un)
theorem pss_never {X : Cx} {st : List Stmt} : PSs X st (fun _ _ _ => False) := ⟨fun _ _ _ _ _ _ h => h.elim⟩
section
variable {X : Cx} {Cl : Nat → Addr} {W : WX} {e : Expr} {es : List Expr} {g : FA} {f2 : FE} {t3 : FT} {rest : FS}
end
section
variable {X : Cx} {Cl : Nat → Addr} {pos : Pos}
end
section
variable {X : Cx} {K : PySem.W.Frag} {Cl : Nat → Addr} {W : WX} {H0 H1 : Hp} {Z : Addr → Prop} {H H' : Hp} {σ : St} {ρ : jc}
theorem SI.xc0 (I : SI K Cl H0 Z H σ ρ) {i : Nat} {s' : Slot} (ow : ∀ j a, qo σ (ρ.set i s') j a ↔ qo σ ρ j a) (h : ka1 K Cl H (hide H (Zo Z σ ρ)) (σ[i]?) s') : SI K Cl H0 Z H σ (ρ.set i s') := by
  have own : ∀ a, qk σ (ρ.set i s') a ↔ qk σ ρ a := fun a => ⟨fun ⟨j, q⟩ => ⟨j, (ow j a).mp q⟩, fun ⟨j, q⟩ => ⟨j, (ow j a).mpr q⟩⟩
  have zo : Zo Z σ (ρ.set i s') = Zo Z σ ρ := funext fun b => propext ⟨fun z => z.imp id (own b).mp, fun z => z.imp id (own b).mpr⟩
  refine ⟨⟨by rw [List.length_set]; exact I.di.len, fun j k a h1 h2 => I.di.one j k a ((ow j a).mp h1) ((ow k a).mp h2), fun a q => I.di.out a ((own a).mp q), I.di.live, fun j t e => ?_, I.di.tb⟩, I.same, fun a q => I.new a ((own a).mp q)⟩
  rw [zo]
  by_cases hj : i = j
  · subst hj
    rw [List.getElem?_set, if_pos rfl] at e
    split at e
    · cases e
      exact h
    · cases e
  · rw [List.getElem?_set_ne hj] at e
    exact I.di.slots j t e
variable {tg : Expr} {x : Str} {pos p0 : Pos}
end
theorem xbh : ∀ {ns : List Str} {vs : List V} {j : Nat} {f : Str} {v : V}, ns.Nodup → ns[j]? = some f → vs[j]? = some v → (ns.zip vs).lookup f = some v
  | [], _, _, _, _, _, h, _ => by simp at h
  | n :: ns, [], _, _, _, _, _, h => by simp at h
  | n :: ns, x :: vs, 0, f, v, _, h1, h2 => by
    simp at h1 h2
    subst h1 h2
    rw [List.zip_cons_cons, List.lookup_cons]
    simp
  | n :: ns, x :: vs, j + 1, f, v, nd, h1, h2 => by
    rw [List.nodup_cons] at nd
    have h1 : ns[j]? = some f := by simpa using h1
    have h2 : vs[j]? = some v := by simpa using h2
    have ne : (f == n) = false := by
      rw [beq_eq_false_iff_ne]
      intro z
      rw [← z] at nd
      exact nd.1 (List.mem_of_getElem? h1)
    rw [List.zip_cons_cons, List.lookup_cons, ne]
    exact xbh nd.2 h1 h2
def wa3 : List (Int × D) → Int → Option D
  | [], _ => none
  | (k, d) :: ps, n => if k = n then some d else wa3 ps n
theorem qm.get {K : PySem.W.Frag} {Hs : Hp} {n : Int} : ∀ {kvs : List (Key × V)} {ps : List (Int × D)}, qm K Hs kvs ps → Dp K Hs ((valV kvs (Sum.inl n : Key)).getD .non) ((wa3 ps n).getD .none)
  | _, _, .nil => .non
  | _, _, .cons (k := k) (v := v) (d := d) (kvs := kvs) (ps := ps) h t => by
    have ih := qm.get (n := n) t
    unfold valV at ih ⊢
    unfold wa3
    by_cases z : k = n
    · subst z
      rw [if_pos rfl, List.find?_cons_of_pos (by simp)]
      exact h
    · rw [if_neg z, List.find?_cons_of_neg (by simp [z])]
      exact ih
section
variable {X : Cx} {Cl : Nat → Addr} {W : WX} {K : PySem.W.Frag} {f : Str} {e o : Expr} {es : List Expr} {fe : FE} {g : FA} {pos apos cpos : Pos}
abbrev MF := List OF → DF
end
section
variable {Cl : Nat → Addr} {K : PySem.W.Frag}
end
section
variable {X : Cx} {CX : CXT} {k : Nat} {g C : Addr} {fd : FuncData} {ps : List Str} {sp : Sp} {E : St → XK} {m : Str} {pos apos : Pos} {e o : Expr} {es : List Expr} {ta : TE} {t : TA}
end
section
variable {X : Cx} {Cl : Nat → Addr} {W : WX} {o e : Expr} {es : List Expr} {g : FA} {pos apos : Pos}
end
structure WS where
  size : Int
  zaa : List Int
  total : Int
  number : Int
  kind : Int
  xk : Int
  vcG : Int
  skip : Int
  rows : List D
  tags : List D
  yaw : List D
  named : List (Int × D)
def WS.of (s : WS) : List OF := [.dat (.int s.size), .dat (.list (s.zaa.map .int)), .dat (.int s.total), .dat (.int s.number), .dat (.int s.kind), .dat (.int s.xk), .dat (.int s.vcG), .dat (.int s.skip), .dat (.list s.rows), .dat (.list s.tags), .dat (.list s.yaw), .dic s.named]
structure WAd where
  dx : Addr
  q : Addr
  r : Addr
  n : Addr
def jk (a : Addr) (w : WAd) : Addr → Prop := fun b => b = a ∨ b = w.dx ∨ b = w.q ∨ b = w.r ∨ b = w.n
def jcd (w : WAd) (s : WS) (vr vt : V) : List V := [.int s.size, .ref w.q, .int s.total, .int s.number, .int s.kind, .int s.xk, .int s.vcG, .int s.skip, vr, vt, .ref w.r, .ref w.n]
structure WA (K : PySem.W.Frag) (Cl : Nat → Addr) (H Hs : Hp) (a : Addr) (w : WAd) (s : WS) : Prop where
  o : ∃ vr vt, H a = some (.ins (Cl 3000) w.dx ((waq 3000).zip (jcd w s vr vt))) ∧ Dp K Hs vr (.list s.rows) ∧ Dp K Hs vt (.list s.tags)
  d : H w.dx = some (.own a)
  p : H w.q = some (.lst (s.zaa.map V.int))
  sp : ∃ xs, H w.r = some (.lst xs) ∧ DpAll K Hs xs s.yaw
  nm : ∃ kvs, H w.n = some (.dK kvs) ∧ qm K Hs kvs s.named
  qr : w.q ≠ w.r
def xaw : HO → Bool
  | .ins _ _ _ => true | .own _ => true | .lst _ => true | .dK _ => true
  | _ => false
section
variable {K : PySem.W.Frag} {Cl : Nat → Addr} {W : WX} {H H' H0 Hs Hs' : Hp} {a : Addr} {w w' : WAd} {s s' : WS} {Z : Addr → Prop} {σ σ' : St} {ρ ρ' : jc} {iw : Nat}
theorem WA.at_ (h : WA K Cl H Hs a w s) {b : Addr} (hb : jk a w b) : ∃ u, H b = some u ∧ xaw u = true := by
  obtain ⟨vr, vt, h1, _, _⟩ := h.o
  obtain ⟨xs, h2, _⟩ := h.sp
  obtain ⟨kvs, h3, _⟩ := h.nm
  rcases hb with rfl | rfl | rfl | rfl | rfl
  · exact ⟨_, h1, rfl⟩
  · exact ⟨_, h.d, rfl⟩
  · exact ⟨_, h.p, rfl⟩
  · exact ⟨_, h2, rfl⟩
  · exact ⟨_, h3, rfl⟩
theorem WA.same (h : WA K Cl H Hs a w s) (h1 : ∀ b, jk a w b → H' b = H b) (m : zd Hs Hs') : WA K Cl H' Hs' a w s := by
  obtain ⟨vr, vt, e1, e2, e3⟩ := h.o
  obtain ⟨xs, e4, e5⟩ := h.sp
  obtain ⟨kvs, e6, e7⟩ := h.nm
  exact ⟨⟨vr, vt, by rw [h1 a (.inl rfl)]; exact e1, Dp.same m e2, Dp.same m e3⟩, by rw [h1 _ (.inr (.inl rfl))]; exact h.d, by rw [h1 _ (.inr (.inr (.inl rfl)))]; exact h.p, ⟨xs, by rw [h1 _ (.inr (.inr (.inr (.inl rfl))))]; exact e4, DpAll.same m e5⟩, ⟨kvs, by rw [h1 _ (.inr (.inr (.inr (.inr rfl))))]; exact e6, e7.same m⟩, h.qr⟩
theorem kaI {u : HO} (h : xaw u = true) : ntb u = true := by cases u <;> first | rfl | cases h
theorem WA.kept (h : WA K Cl H Hs a w s) (sm : Same Cl H H') {b : Addr} (hb : jk a w b) : H' b = H b := by
  obtain ⟨u, e, k⟩ := h.at_ hb
  rw [e, sm.at e (kaI k)]
def ZA (Z : Addr → Prop) (a : Addr) (w : WAd) : Addr → Prop := fun b => Z b ∨ jk a w b
open Classical in
noncomputable def vaq (H0 H : Hp) (a : Addr) (w : WAd) : Hp := fun b => if jk a w b then H b else H0 b
theorem zO {b : Addr} (h : jk a w b) : vaq H0 H a w b = H b := by unfold vaq; rw [if_pos h]
theorem yl {b : Addr} (h : ¬ jk a w b) : vaq H0 H a w b = H0 b := by unfold vaq; rw [if_neg h]
structure xo (K : PySem.W.Frag) (Cl : Nat → Addr) (H0 : Hp) (Z : Addr → Prop) (H : Hp) (σ : St) (ρ : jc) (iw : Nat) (a : Addr) (w : WAd) (s : WS) : Prop where
  si : SI K Cl (vaq H0 H a w) (ZA Z a w) H σ (ρ.set iw (.pin a))
  wa : WA K Cl H (hide H (Zo (ZA Z a w) σ (ρ.set iw (.pin a)))) a w s
  h0 : ∀ b, jk a w b → H0 b = none
  nz : ∀ b, jk a w b → ¬ Z b
  un : ρ[iw]? = some .un
theorem xo.mix (S : xo K Cl H0 Z H σ ρ iw a w s) : Same Cl H0 (vaq H0 H a w) := by
  have ne : ∀ {b : Addr}, H0 b ≠ none → ¬ jk a w b := fun {b} e z => e (S.h0 b z)
  refine .of (fun b o e => by rw [yl (ne (by rw [e]; intro z; cases z))]; exact e) fun b o xs e => ?_
  by_cases h : jk a w b
  · obtain ⟨u, e2, k⟩ := S.wa.at_ h
    rw [zO h, e2] at e
    cases e
    cases k
  · rw [yl h] at e
    exact e
theorem xo.base (S : xo K Cl H0 Z H σ ρ iw a w s) : Same Cl H0 H := S.mix.trans S.si.same
theorem xo.var (S : xo K Cl H0 Z H σ ρ iw a w s) : σ[iw]? = some (some (.ref a)) := by
  have hi : iw < ρ.length := (List.getElem?_eq_some_iff.mp S.un).1
  exact S.si.di.slots iw (.pin a) (by rw [List.getElem?_set, if_pos rfl, if_pos hi])
theorem xo.same (S : xo K Cl H0 Z H σ ρ iw a w s) (sm : Same Cl H H') : xo K Cl H0 Z H' σ ρ iw a w s := by
  have e : vaq H0 H' a w = vaq H0 H a w := funext fun b => by
    by_cases h : jk a w b
    · rw [zO h, zO h, S.wa.kept sm h]
    · rw [yl h, yl h]
  exact ⟨by rw [e]; exact S.si.zu sm, S.wa.same (fun b hb => S.wa.kept sm hb) (xl sm fun _ h => .inl h), S.h0, S.nz, S.un⟩
theorem xo.step (S : xo K Cl H0 Z H σ ρ iw a w s) (I : SI K Cl (ku H σ (ρ.set iw (.pin a))) (ZA Z a w) H' σ' ρ') (hp : ρ'[iw]? = some (.pin a)) : xo K Cl H0 Z H' σ' (ρ'.set iw .un) iw a w s := by
  have hi : iw < ρ'.length := (List.getElem?_eq_some_iff.mp hp).1
  have back : (ρ'.set iw .un).set iw (.pin a) = ρ' := by
    obtain ⟨h1, h2⟩ := List.getElem?_eq_some_iff.mp hp
    rw [List.set_set, ← h2, List.set_getElem_self h1]
  have no : ∀ b, jk a w b → ¬ qk σ (ρ.set iw (.pin a)) b := fun b hb z => S.si.di.out b z (.inr hb)
  have kept : ∀ b, jk a w b → H' b = H b := fun b hb => by
    obtain ⟨u, e, k⟩ := S.wa.at_ hb
    rw [e, I.same.at (qI (no b hb) e) (kaI k)]
  have e : vaq H0 H' a w = vaq H0 H a w := funext fun b => by
    by_cases h : jk a w b
    · rw [zO h, zO h, kept b h]
    · rw [yl h, yl h]
  refine ⟨?_, ?_, S.h0, S.nz, by rw [List.getElem?_set, if_pos rfl, if_pos hi]⟩
  · rw [back, e]
    exact I.rebase S.si.based.1
  · rw [back]
    exact S.wa.same kept I.kept
structure After (Cl : Nat → Addr) (H : Hp) (a : Addr) (w : WAd) (H' : Hp) (w' : WAd) : Prop where
  s : Same Cl (hide H (jk a w)) H'
  tb : TBl Cl H → TBl Cl H'
  new : ∀ b, jk a w' b → jk a w b ∨ H b = none
theorem After.live (f : After Cl H a w H' w') {b : Addr} (n : ¬ jk a w b) (e : H b ≠ none) : H' b ≠ none := f.s.live b (by unfold hide; rw [if_neg n]; exact e)
theorem After.keep (f : After Cl H a w H' w') {b : Addr} {o : HO} (n : ¬ jk a w b) (e : H b = some o) (t : ntb o = true) : H' b = some o := f.s.at (ze n e) t
theorem xo.kbh (S : xo K Cl H0 Z H σ ρ iw a w s) (f : After Cl H a w H' w') : zd (hide H (Zo (ZA Z a w) σ (ρ.set iw (.pin a)))) (hide H' (Zo (ZA Z a w') σ (ρ.set iw (.pin a)))) := fun b o e t => by
  obtain ⟨n, e1⟩ := zi e
  refine ze (fun z => ?_) (f.keep (fun z => n (.inl (.inr z))) e1 t)
  rcases z with (z | z) | z
  · exact n (.inl (.inl z))
  · rcases f.new b z with z | z
    · exact n (.inl (.inr z))
    · rw [z] at e1
      cases e1
  · exact n (.inr z)
theorem xo.after (S : xo K Cl H0 Z H σ ρ iw a w s) (f : After Cl H a w H' w') (wa' : WA K Cl H' (hide H' (Zo (ZA Z a w') σ (ρ.set iw (.pin a)))) a w' s') : xo K Cl H0 Z H' σ ρ iw a w' s' := by
  have m := S.kbh f
  have noA : ∀ b, qk σ (ρ.set iw (.pin a)) b → ¬ jk a w b := fun b o z => S.si.di.out b o (.inr z)
  have wcd : ∀ b, qk σ (ρ.set iw (.pin a)) b → ¬ jk a w' b := fun b o z => by
    rcases f.new b z with z | z
    · exact noA b o z
    · exact S.si.di.yaI o z
  have h0' : ∀ b, jk a w' b → H0 b = none := fun b z => by
    rcases f.new b z with z | z
    · exact S.h0 b z
    · exact S.base.free z
  have nz' : ∀ b, jk a w' b → ¬ Z b := fun b z y => by
    rcases f.new b z with z | z
    · exact S.nz b z y
    · exact S.si.di.live b (.inl y) z
  have wbf : ∀ {b : Addr} {o : HO}, qk σ (ρ.set iw (.pin a)) b → H b = some o → ntb o = true → H' b = some o := fun {b o} ob e t => f.keep (noA b ob) e t
  refine ⟨⟨⟨S.si.di.len, S.si.di.one, fun b o z => ?_, fun b z => ?_, fun i t e => ?_, f.tb S.si.di.tb⟩, ?_, fun b o => ?_⟩, wa', h0', nz', S.un⟩
  · rcases z with z | z
    · exact S.si.di.out b o (.inl z)
    · exact wcd b o z
  · rcases z with z | z
    · exact f.live (fun y => S.nz b y z) (S.si.di.live b (.inl z))
    · obtain ⟨u, e, _⟩ := wa'.at_ z
      rw [e]
      intro y
      cases y
  · have k := S.si.di.slots i t e
    cases t with
    | un => trivial
    | dat d =>
      obtain ⟨v, e1, h1⟩ := k
      exact ⟨v, e1, Dp.same m h1⟩
    | own ds =>
      obtain ⟨b, xs, e1, e2, h1⟩ := k
      exact ⟨b, xs, e1, wbf ⟨i, .inl ⟨e1, ds, e⟩⟩ e2 rfl, DpAll.same m h1⟩
    | err b dd j =>
      refine ⟨k.1, f.keep (fun z => ?_) k.2 rfl⟩
      obtain ⟨u, e3, k3⟩ := S.wa.at_ z
      have k2 := k.2
      rw [e3] at k2
      cases k2
      cases k3
    | ownT b k' gs =>
      obtain ⟨T, e1, h1⟩ := k
      exact ⟨T, e1, h1.same m fun ys z => wbf ⟨i, .inr (.inl ⟨k', gs, e⟩)⟩ z rfl⟩
    | pin b => exact k
    | ob k' fs =>
      exact z6.same m k
    | yV b c =>
      obtain ⟨e1, u, e2, h1⟩ := k
      exact ⟨e1, u, wbf ⟨i, .inr (.inr ⟨c, e⟩)⟩ e2 h1.ntb, h1.same m⟩
  · refine ⟨fun b o e t => ?_, fun _ => f.tb S.si.di.tb, fun b e => ?_, fun b o xs e => ?_⟩
    · by_cases h : jk a w' b
      · rw [zO h] at e
        exact e
      · rw [yl h] at e
        have n : ¬ jk a w b := fun z => by rw [S.h0 b z] at e; cases e
        exact f.keep n (S.si.same.d b o (by rw [yl n]; exact e) t) t
    · by_cases h : jk a w' b
      · rw [zO h] at e
        exact e
      · rw [yl h] at e
        exact f.live (fun y => e (S.h0 b y)) (S.base.live b e)
    · have n : ¬ jk a w' b := fun z => by
        obtain ⟨u, e2, k⟩ := wa'.at_ z
        rw [e2] at e
        cases e
        cases k
      obtain ⟨n1, e1⟩ := zi (f.s.nf b o xs e)
      have e3 := S.si.same.nf b o xs e1
      rw [yl n1] at e3
      rw [yl n]
      exact e3
  · rw [yl (wcd b o)]
    have q := S.si.new b o
    rw [yl (noA b o)] at q
    exact q
structure RTW (K : PySem.W.Frag) (Cl : Nat → Addr) (H0 : Hp) (Z : Addr → Prop) (H : Hp) (a : Addr) (w : WAd) (s : WS) : Prop where
  same : Same Cl H0 H
  tb : TBl Cl H
  wa : WA K Cl H (hide H (ZA Z a w)) a w s
  h0 : ∀ b, jk a w b → H0 b = none
  nz : ∀ b, jk a w b → ¬ Z b
theorem xo.rt (S : xo K Cl H0 Z H σ ρ iw a w s) : RTW K Cl H0 Z H a w s := ⟨S.base, S.si.di.tb, S.wa.same (fun _ _ => rfl) (vd (zd.refl _) fun _ h => .inl (.inl h)), S.h0, S.nz⟩
def OkW (K : PySem.W.Frag) (Cl : Nat → Addr) (W : WX) (H0 : Hp) (Z : Addr → Prop) (iw : Nat) (a : Addr) (D : Ends) : WS × Out → Prop
  | (s, .nx ρ) => ∀ σ H w, xo K Cl H0 Z H σ ρ iw a w s → D.nx σ H
  | (s, .brk ρ) => ∀ σ H w, xo K Cl H0 Z H σ ρ iw a w s → D.bk σ H
  | (s, .ct ρ) => ∀ σ H w, xo K Cl H0 Z H σ ρ iw a w s → D.ct σ H
  | (s, .ret d) => ∀ v H w, RTW K Cl H0 Z H a w s → Dp K (hide H (ZA Z a w)) v d → D.rt v H
  | (s, .retF ds) => ∀ p xs H w, RTW K Cl H0 Z H a w s → H0 p = none → ¬ jk a w p → H p = some (.lst xs) → DpAll K (hide H (ZP (ZA Z a w) p)) xs ds → D.rt (.ref p) H
  | (_, .retX _ _) => False
  | (s, .exc ρ c i) => ∀ dd σ H w, xo K Cl H0 Z H σ ρ iw a w s → H dd = some (.xd [(("at" : Str), .int i)]) → W (.ref (Cl c)) (some dd) σ H
abbrev FW := WS → jc → Option (WS × Out)
section
variable {X : Cx} {st : Stmt} {sts : List Stmt} {f : FS} {g h : FW}
end
end
section
variable {K : PySem.W.Frag} {Cl : Nat → Addr} {W : WX} {H H' H0 Hs Hs' : Hp} {a : Addr} {w w' : WAd} {s s' : WS} {Z : Addr → Prop} {σ σ' : St} {ρ ρ' : jc} {iw : Nat}
theorem va3 {i : Nat} {s s' : Slot} (hs : ρ[i]? = some s) (n : ¬ s.j6) (n' : ¬ s'.j6) (j : Nat) (b : Addr) : qo σ (ρ.set i s') j b ↔ qo σ ρ j b := by
  by_cases hj : i = j
  · subst hj
    have hl : i < ρ.length := (List.getElem?_eq_some_iff.mp hs).1
    constructor
    · intro h
      obtain ⟨t, h1, h2⟩ := h.slot
      rw [List.getElem?_set, if_pos rfl, if_pos hl] at h1
      cases h1
      exact absurd h2 n'
    · intro h
      obtain ⟨t, h1, h2⟩ := h.slot
      rw [hs] at h1
      cases h1
      exact absurd h2 n
  · unfold qo
    rw [List.getElem?_set_ne hj]
theorem WA.ob (h : WA K Cl H Hs a w s) (e : ∀ b, jk a w b → Hs' b = H b) (m : zd Hs Hs') : qbo K Cl Hs' a 3000 s.of := by
  obtain ⟨vr, vt, e1, e2, e3⟩ := h.o
  obtain ⟨xs, e4, e5⟩ := h.sp
  obtain ⟨kvs, e6, e7⟩ := h.nm
  have hl : ∀ {b : Addr} {xs : List V}, jk a w b → H b = some (.lst xs) → Rd Hs' b (.lst xs) := fun {b xs} hb q => Rd.of (by rw [e b hb]; exact q)
  refine ⟨w.dx, jcd w s vr vt, by rw [e a (.inl rfl)]; exact e1, rfl, rfl, fun j x hx => ?_⟩
  match j, hx with
  | 0, hx => cases hx; exact ⟨_, rfl, .int _⟩
  | 1, hx =>
    cases hx
    exact ⟨_, rfl, .lst (hl (.inr (.inr (.inl rfl))) h.p) (DpAll.of_ints _)⟩
  | 2, hx => cases hx; exact ⟨_, rfl, .int _⟩
  | 3, hx => cases hx; exact ⟨_, rfl, .int _⟩
  | 4, hx => cases hx; exact ⟨_, rfl, .int _⟩
  | 5, hx => cases hx; exact ⟨_, rfl, .int _⟩
  | 6, hx => cases hx; exact ⟨_, rfl, .int _⟩
  | 7, hx => cases hx; exact ⟨_, rfl, .int _⟩
  | 8, hx => cases hx; exact ⟨_, rfl, Dp.same m e2⟩
  | 9, hx => cases hx; exact ⟨_, rfl, Dp.same m e3⟩
  | 10, hx =>
    cases hx
    exact ⟨_, rfl, .lst (hl (.inr (.inr (.inr (.inl rfl)))) e4) (DpAll.same m e5)⟩
  | 11, hx =>
    cases hx
    exact ⟨_, rfl, w.n, kvs, rfl, by rw [e _ (.inr (.inr (.inr (.inr rfl))))]; exact e6, e7.same m⟩
  | j + 12, hx => cases hx
theorem xo.view (S : xo K Cl H0 Z H σ ρ iw a w s) : DI K Cl Z H σ (ρ.set iw (.ob 3000 s.of)) := by
  have hi : iw < ρ.length := (List.getElem?_eq_some_iff.mp S.un).1
  have hp : (ρ.set iw (.pin a))[iw]? = some (.pin a) := by rw [List.getElem?_set, if_pos rfl, if_pos hi]
  have I := S.si.less (Z := Z) fun b h => .inl h
  have nz : ∀ b, jk a w b → ¬ Zo Z σ (ρ.set iw (.pin a)) b := fun b hb z => z.elim (S.nz b hb) fun z => S.si.di.out b z (.inr hb)
  have q := I.xc0 (i := iw) (s' := .ob 3000 s.of) (fun j b => va3 (s := .pin a) (s' := .ob 3000 s.of) hp (show ¬ Slot.j6 (.pin a) from fun z => z) (show ¬ Slot.j6 (.ob 3000 s.of) from fun z => z) j b) ⟨a, S.var, S.wa.ob (fun b hb => ?_) (vd (zd.refl _) fun b hb => ?_)⟩
  · rw [List.set_set] at q
    exact q.di
  · obtain ⟨u, e, _⟩ := S.wa.at_ hb
    rw [e]
    exact ze (nz b hb) e
  · exact .inl (hb.elim (fun z => .inl (.inl z)) .inr)
theorem xo.err {e : Er} {D : Ends} (S : xo K Cl H0 Z H σ ρ iw a w s) (h : OkW K Cl W H0 Z iw a D (s, .exc ρ e.1 e.2)) : qS Cl W σ H e := fun dd H' sm hd => h dd σ H' w (S.same sm) hd
section
variable {X : Cx} {c : Expr} {sa sb : List Stmt} {pos : Pos} {t : FT} {f g : FW}
end
theorem xo.based (S : xo K Cl H0 Z H σ ρ iw a w s) : Same Cl H0 (hide (ku H σ (ρ.set iw (.pin a))) (jk a w)) ∧ xo K Cl (hide (ku H σ (ρ.set iw (.pin a))) (jk a w)) Z H σ ρ iw a w s := by
  obtain ⟨b0, I2⟩ := S.si.based
  have nA : ∀ {b : Addr}, H0 b ≠ none → ¬ jk a w b := fun {b} e z => e (S.h0 b z)
  have nt : ∀ {b : Addr} {o : HO}, ku H σ (ρ.set iw (.pin a)) b = some o → ((∃ ps, o = .tbl ps) ∨ ∃ q, o = LamX.CodeO b q) → ¬ jk a w b := fun {b o} e k z => by
    obtain ⟨u, e2, k2⟩ := S.wa.at_ z
    rw [(vbf e).2] at e2
    cases e2
    rcases k with ⟨ps, rfl⟩ | ⟨q, rfl⟩
    · cases k2
    · unfold LamX.CodeO at k2
      cases k2
  have s0 := S.mix.trans b0
  refine ⟨⟨fun b o e t => ze (nA (by rw [e]; intro z; cases z)) (s0.d b o e t), fun t q hq n => ?_, fun b e z => ?_, fun b o xs e => s0.nf b o xs (zi e).2⟩, ?_, S.wa, fun b h => ?_, S.nz, S.un⟩
  · obtain ⟨ps, h1, h2, h3⟩ := s0.tb t q hq n
    refine ⟨ps, ze (nt h1 (.inl ⟨ps, rfl⟩)) h1, h2, fun pos cv hc => ?_⟩
    obtain ⟨c, e1, e2⟩ := h3 pos cv hc
    exact ⟨c, e1, ze (nt e2 (.inr ⟨_, rfl⟩)) e2⟩
  · have q := s0.live b e
    unfold hide at z
    rw [if_neg (nA e)] at z
    exact q z
  · have e : vaq (hide (ku H σ (ρ.set iw (.pin a))) (jk a w)) H a w = ku H σ (ρ.set iw (.pin a)) := funext fun b => by
      by_cases h : jk a w b
      · obtain ⟨u, e, _⟩ := S.wa.at_ h
        rw [zO h, e, qI (fun z => S.si.di.out b z (.inr h)) e]
      · rw [yl h]
        unfold hide
        rw [if_neg h]
    rw [e]
    exact I2
  · unfold hide
    rw [if_pos h]
theorem xo.rebase {H1 : Hp} (S : xo K Cl H1 Z H σ ρ iw a w s) (sm : Same Cl H0 H1) : xo K Cl H0 Z H σ ρ iw a w s := by
  have h0 : ∀ b, jk a w b → H0 b = none := fun b h => sm.free (S.h0 b h)
  refine ⟨⟨S.si.di, ⟨fun b o e t => ?_, fun _ => S.si.di.tb, fun b e => ?_, fun b o xs e => (by
    have n : ¬ jk a w b := fun z => by
      obtain ⟨u, e2, k⟩ := S.wa.at_ z
      rw [e2] at e
      cases e
      cases k
    have e3 := S.si.same.nf b o xs e
    rw [yl n] at e3
    rw [yl n]
    exact sm.nf b o xs e3)⟩, fun b o => ?_⟩, S.wa, h0, S.nz, S.un⟩
  · by_cases h : jk a w b
    · rw [zO h] at e
      exact e
    · rw [yl h] at e
      exact S.si.same.d b o (by rw [yl h]; exact sm.d b o e t) t
  · by_cases h : jk a w b
    · rw [zO h] at e
      exact e
    · rw [yl h] at e
      exact S.si.same.live b (by rw [yl h]; exact sm.live b e)
  · have n : ¬ jk a w b := fun z => S.si.di.out b o (.inr z)
    have q := S.si.new b o
    rw [yl n] at q ⊢
    exact sm.free q
theorem RTW.rebase {H1 : Hp} (S : RTW K Cl H1 Z H a w s) (sm : Same Cl H0 H1) : RTW K Cl H0 Z H a w s := ⟨sm.trans S.same, S.tb, S.wa, fun b h => sm.free (S.h0 b h), S.nz⟩
theorem OkW.rebase {H1 : Hp} {D : Ends} {r : WS × Out} (sm : Same Cl H0 H1) (h : OkW K Cl W H0 Z iw a D r) : OkW K Cl W H1 Z iw a D r := by
  obtain ⟨s, o⟩ := r
  cases o with
  | nx ρ => exact fun σ H w S => h σ H w (S.rebase sm)
  | brk ρ => exact fun σ H w S => h σ H w (S.rebase sm)
  | ct ρ => exact fun σ H w S => h σ H w (S.rebase sm)
  | ret d => exact fun v H w R hd => h v H w (R.rebase sm) hd
  | retF ds => exact fun p xs H w R np nA hp hd => h p xs H w (R.rebase sm) (sm.free np) nA hp hd
  | retX ds k => exact h
  | exc ρ c i => exact fun dd σ H w S hd => h dd σ H w (S.rebase sm) hd
theorem xo.kept (S : xo K Cl (hide (ku H σ (ρ.set iw (.pin a))) (jk a w)) Z H' σ' ρ' iw a w' s') : zd (hide H (Zo (ZA Z a w) σ (ρ.set iw (.pin a)))) (hide H' (Zo (ZA Z a w') σ' (ρ'.set iw (.pin a)))) := fun b o e nt => by
  obtain ⟨n, e1⟩ := zi e
  have e2 : hide (ku H σ (ρ.set iw (.pin a))) (jk a w) b = some o := ze (fun z => n (.inl (.inr z))) (qI (fun z => n (.inr z)) e1)
  have nA : ¬ jk a w' b := fun z => by rw [S.h0 b z] at e2; cases e2
  refine ze (fun z => ?_) (S.si.same.d b o (by rw [yl nA]; exact e2) nt)
  rcases z with (z | z) | z
  · exact n (.inl (.inl z))
  · exact nA z
  · have q := S.si.new b z
    rw [yl nA, e2] at q
    cases q
section
variable {X : Cx} {tg e : Expr} {body : List Stmt} {pos : Pos} {it : FI} {g : FG} {fb : FW}
end
end
def xbI (xs : List D) : Bool := xs.all fun d => match d with
  | .int _ => true
  | _ => false
def kbI : D → Bool
  | .tuple _ => true
  | _ => false
def vba (s : WS) (xs : List D) : Bool := xbI xs && (decide (xs.length ≠ s.zaa.length) && !(xs.isEmpty && s.yaw.isEmpty))
def vcd (s : WS) : D → Bool
  | .list xs => vba s xs
  | d => vj d
def ycd (s : WS) (d : D) : Bool := s.yaw.all kbI && match d with
  | .tuple ds => ds.all (vcd s)
  | d => vj d
section
variable {K : PySem.W.Frag} {Cl : Nat → Addr} {W : WX} {H H' H0 Hs Hs' : Hp} {a : Addr} {w w' : WAd} {s s' : WS} {Z Y : Addr → Prop} {σ σ' : St} {ρ ρ' : jc} {iw : Nat}
theorem free_at (h : WA K Cl H Hs a w s) {b : Addr} {xs : List V} {ds : List D} (hb : H b = some (.lst xs)) (hd : DpAll K Hs' xs ds) (hf : vba s ds = true) (ht : s.yaw.all kbI = true) : ¬ jk a w b := fun z => by
  unfold vba at hf
  rw [Bool.and_eq_true, Bool.and_eq_true, decide_eq_true_eq, Bool.not_eq_true', Bool.and_eq_false_iff] at hf
  obtain ⟨h1, h2, h3⟩ := hf
  have hl := hd.length
  rcases z with rfl | rfl | rfl | rfl | rfl
  · obtain ⟨vr, vt, e, _⟩ := h.o
    rw [e] at hb
    cases hb
  · rw [h.d] at hb
    cases hb
  · rw [h.p] at hb
    cases hb
    rw [List.length_map] at hl
    exact h2 hl.symm
  · obtain ⟨ys, e, hy⟩ := h.sp
    rw [e] at hb
    cases hb
    have hl2 := hy.length
    generalize s.yaw = sp at hy hl2 h3 ht
    cases hd with
    | nil =>
      cases hy
      rcases h3 with h3 | h3 <;> cases h3
    | cons a1 a2 =>
      cases hy with
      | cons b1 b2 =>
        rename_i v vs d ds' d2 ds2
        unfold xbI at h1
        rw [List.all_cons, Bool.and_eq_true] at h1 ht
        cases d <;> first | cases h1.1 | skip
        cases d2 <;> first | cases ht.1 | skip
        rw [a1.int_inv] at b1
        cases b1
  · obtain ⟨kvs, e, _⟩ := h.nm
    rw [e] at hb
    cases hb
theorem zcU (h : WA K Cl H Hs a w s) {b : Addr} {xs : List V} {ds : List D} (hb : Rd (hide H Y) b (.lst xs)) (hd : DpAll K (hide H Y) xs ds) (hf : vba s ds = true) (ht : s.yaw.all kbI = true) : Rd (hide H fun b => Y b ∨ jk a w b) b (.lst xs) := by
  rcases hb with hb | ⟨o, hb⟩
  · obtain ⟨n, e⟩ := zi hb
    exact .inl (ze (fun z => z.elim n (free_at h e hd hf ht)) e)
  · obtain ⟨n, e⟩ := zi hb
    refine .inr ⟨o, ze (fun z => z.elim n fun z => ?_) e⟩
    obtain ⟨u, e2, k⟩ := h.at_ z
    rw [e] at e2
    cases e2
    cases k
theorem vcA {xs : List V} {ds : List D} (hl : xbI ds = true) (hd : DpAll K Hs xs ds) : DpAll K Hs' xs ds := DpAll.scalar (by
  rw [List.all_eq_true]
  intro d hd
  unfold xbI at hl
  have q := List.all_eq_true.mp hl d hd
  cases d <;> first | rfl | cases q) hd
theorem qcr (h : WA K Cl H Hs a w s) {v : V} {d : D} (hd : Dp K (hide H Y) v d) (hf : vcd s d = true) (ht : s.yaw.all kbI = true) : Dp K (hide H fun b => Y b ∨ jk a w b) v d := by
  cases d with
  | list ds =>
    obtain ⟨b, xs, rfl, r1, r2⟩ := hd.lst_inv
    have hf : vba s ds = true := hf
    have hl : xbI ds = true := by
      unfold vba at hf
      rw [Bool.and_eq_true] at hf
      exact hf.1
    exact .lst (zcU h r1 r2 hf ht) (vcA hl r2)
  | none => exact Dp.scalar rfl hd
  | bool b => exact Dp.scalar rfl hd
  | int i => exact Dp.scalar rfl hd
  | str x => exact Dp.scalar rfl hd
  | tuple ds => cases hf
  | dict ks => cases hf
theorem qbi (h : WA K Cl H Hs a w s) (ht : s.yaw.all kbI = true) : ∀ {xs : List V} {ds : List D}, DpAll K (hide H Y) xs ds → ds.all (vcd s) = true → DpAll K (hide H fun b => Y b ∨ jk a w b) xs ds
  | _, _, .nil, _ => .nil
  | _, _, .cons q1 q2, hf => by
    rw [List.all_cons, Bool.and_eq_true] at hf
    exact .cons (qcr h q1 hf.1 ht) (qbi h ht q2 hf.2)
theorem jcU (h : WA K Cl H Hs a w s) {v : V} {d : D} (hd : Dp K (hide H Y) v d) (hf : ycd s d = true) : Dp K (hide H fun b => Y b ∨ jk a w b) v d := by
  unfold ycd at hf
  rw [Bool.and_eq_true] at hf
  obtain ⟨ht, hf⟩ := hf
  cases d with
  | tuple ds =>
    obtain ⟨T, xs, rfl, r1, r2⟩ := hd.kD
    refine .tup ?_ (qbi h ht r2 hf)
    have nk : ∀ {o : HO}, H T = some o → xaw o = false → ¬ jk a w T := fun {o} e k z => by
      obtain ⟨u, e2, k2⟩ := h.at_ z
      rw [e] at e2
      cases e2
      rw [k] at k2
      cases k2
    rcases r1 with (r1 | ⟨o, r1⟩) | r1
    · obtain ⟨n, e⟩ := zi r1
      exact .inl (.inl (ze (fun z => z.elim n (nk e rfl)) e))
    · obtain ⟨n, e⟩ := zi r1
      exact .inl (.inr ⟨o, ze (fun z => z.elim n (nk e rfl)) e⟩)
    · exact .inr r1
  | none => exact Dp.scalar rfl hd
  | bool b => exact Dp.scalar rfl hd
  | int i => exact Dp.scalar rfl hd
  | str x => exact Dp.scalar rfl hd
  | list ds => cases hf
  | dict ks => cases hf
theorem xo.xcG (S : xo K Cl H0 Z H σ ρ iw a w s) : (ρ.set iw (.pin a))[iw]? = some (.pin a) := by rw [List.getElem?_set, if_pos rfl, if_pos (List.getElem?_eq_some_iff.mp S.un).1]
theorem xo.kcG (S : xo K Cl H0 Z H σ ρ iw a w s) (b : Addr) : qk σ (ρ.set iw (.ob 3000 s.of)) b ↔ qk σ (ρ.set iw (.pin a)) b := by
  have e : ρ.set iw (.ob 3000 s.of) = (ρ.set iw (.pin a)).set iw (.ob 3000 s.of) := by rw [List.set_set]
  rw [e]
  exact ⟨fun ⟨j, q⟩ => ⟨j, (va3 (s := .pin a) (s' := .ob 3000 s.of) S.xcG (show ¬ Slot.j6 (.pin a) from fun z => z) (show ¬ Slot.j6 (.ob 3000 s.of) from fun z => z) j b).mp q⟩, fun ⟨j, q⟩ => ⟨j, (va3 (s := .pin a) (s' := .ob 3000 s.of) S.xcG (show ¬ Slot.j6 (.pin a) from fun z => z) (show ¬ Slot.j6 (.ob 3000 s.of) from fun z => z) j b).mpr q⟩⟩
theorem xo.free (S : xo K Cl H0 Z H σ ρ iw a w s) {v : V} {d : D} (hd : Dp K (hide H (Zo Z σ (ρ.set iw (.ob 3000 s.of)))) v d) (hf : ycd s d = true) : Dp K (hide H (Zo (ZA Z a w) σ (ρ.set iw (.pin a)))) v d :=
  Dp.same (vd (zd.refl _) fun b hb => .inl (by
    rcases hb with (hb | hb) | hb
    · exact .inl (.inl hb)
    · exact .inr hb
    · exact .inl (.inr ((S.kcG b).mpr hb)))) (jcU S.wa hd hf)
theorem xo.yz (S : xo K Cl H0 Z H σ ρ iw a w s) {j : Nat} {v : V} {d : D} (hj : iw ≠ j) (hd : Dp K (hide H (Zo (ZA Z a w) σ (ρ.set iw (.pin a)))) v d) : xo K Cl H0 Z H (σ.set j (some v)) (ρ.set j (.dat d)) iw a w s := by
  have e : (ρ.set j (.dat d)).set iw (.pin a) = (ρ.set iw (.pin a)).set j (.dat d) := List.set_comm _ _ (Ne.symm hj)
  have I := S.si.yz (i := j) hd
  have m : zd (hide H (Zo (ZA Z a w) σ (ρ.set iw (.pin a)))) (hide H (Zo (ZA Z a w) (σ.set j (some v)) ((ρ.set iw (.pin a)).set j (.dat d)))) := vd (zd.refl _) fun b hb => .inl (hb.imp id fun ⟨k, q⟩ => ⟨k, qy (s := .dat d) (fun z => nomatch z) q⟩)
  exact ⟨by rw [e]; exact I, by rw [e]; exact S.wa.same (fun _ _ => rfl) m, S.h0, S.nz, by rw [List.getElem?_set_ne (Ne.symm hj)]; exact S.un⟩
section
variable {X : Cx} {e : Expr} {f : FE} {pos : Pos}
end
open Classical in
noncomputable def pinned {β : Type} (iw : Nat) (g : jc → Option β) (ρ : jc) : Option β := if h : ∃ o, ∀ a, g (ρ.set iw (.pin a)) = some o then some h.choose else none
theorem kbY {β : Type} {iw : Nat} {g : jc → Option β} {ρ : jc} {o : β} (h : pinned iw g ρ = some o) (a : Addr) : g (ρ.set iw (.pin a)) = some o := by
  unfold pinned at h
  split at h
  · rename_i hh
    cases h
    exact hh.choose_spec a
  · cases h
theorem zcr {β : Type} {iw : Nat} {g : jc → Option β} {ρ : jc} {o : β} (h : ∀ a, g (ρ.set iw (.pin a)) = some o) : pinned iw g ρ = some o := by
  have hh : ∃ o, ∀ a, g (ρ.set iw (.pin a)) = some o := ⟨o, h⟩
  unfold pinned
  rw [dif_pos hh]
  have q := hh.choose_spec 0
  rw [h 0] at q
  rw [← Option.some.inj q]
abbrev WF := WS → List D → Option (WS × ybf)
theorem xo.start {rest : List V} {ds : List D} {m : Nat} (live : ybo Cl (ZA Z a w) H) (wa : WA K Cl H (hide H (ZA Z a w)) a w s) (nz : ∀ b, jk a w b → ¬ Z b) (h : DpAll K (hide H (ZA Z a w)) rest ds) : xo K Cl (hide H (jk a w)) Z H (some (.ref a) :: (rest.map some ++ List.replicate m none)) (.un :: (ds.map .dat ++ List.replicate m .un)) 0 a w s := by
  have e : vaq (hide H (jk a w)) H a w = H := funext fun b => by
    by_cases z : jk a w b
    · rw [zO z]
    · rw [yl z]
      unfold hide
      rw [if_neg z]
  have no : ∀ i b, ¬ qo (some (.ref a) :: (rest.map some ++ List.replicate m none)) (.pin a :: (ds.map .dat ++ List.replicate m .un)) i b := fun i b ho => by
    obtain ⟨t, h2, h3⟩ := ho.slot
    cases i with
    | zero => cases h2; cases h3
    | succ i =>
      have h2 : (ds.map Slot.dat ++ List.replicate m .un)[i]? = some t := h2
      rw [List.getElem?_append] at h2
      split at h2
      · rw [List.getElem?_map] at h2
        cases e : ds[i]? with
        | none => rw [e] at h2; cases h2
        | some d => rw [e] at h2; cases h2; cases h3
      · rw [List.getElem?_replicate] at h2
        split at h2
        · cases h2; cases h3
        · cases h2
  have hl := h.length
  have hm : zd (hide H (ZA Z a w)) (hide H (Zo (ZA Z a w) (some (.ref a) :: (rest.map some ++ List.replicate m none)) (.pin a :: (ds.map .dat ++ List.replicate m .un)))) := vd (zd.refl _) fun b hb => .inl (hb.elim id fun ⟨j, z⟩ => absurd z (no j b))
  refine ⟨?_, wa.same (fun _ _ => rfl) hm, fun b z => by unfold hide; rw [if_pos z], nz, rfl⟩
  rw [e]
  refine ⟨⟨by simp [hl], fun i j b h1 => absurd h1 (no i b), fun b ⟨i, z⟩ => absurd z (no i b), live.lv, fun i t e => ?_, live.tb⟩, Same.refl _, fun b ⟨i, z⟩ => absurd z (no i b)⟩
  cases i with
  | zero =>
    cases e
    exact rfl
  | succ i =>
    have e : (ds.map Slot.dat ++ List.replicate m .un)[i]? = some t := e
    show ka1 K Cl H _ ((rest.map some ++ List.replicate m none)[i]?) t
    rw [List.getElem?_append] at e
    split at e
    · rename_i hi
      rw [List.length_map] at hi
      rw [List.getElem?_map] at e
      cases e1 : ds[i]? with
      | none => rw [e1] at e; cases e
      | some d =>
        rw [e1] at e
        cases e
        obtain ⟨v, e2, e3⟩ := h.get e1
        refine ⟨v, ?_, Dp.same hm e3⟩
        rw [List.getElem?_append_left (by rw [List.length_map, hl]; exact hi), List.getElem?_map, e2]
        rfl
    · rw [List.getElem?_replicate] at e
      split at e
      · cases e; trivial
      · cases e
theorem RTW.after {w0 : WAd} (R : RTW K Cl (hide H (jk a w0)) Z H' a w s) : After Cl H a w0 H' w := ⟨R.same, fun _ => R.tb, fun b hb => by
  have q := R.h0 b hb
  unfold hide at q
  split at q
  · rename_i z
    exact .inl z
  · exact .inr q⟩
end
section
variable {K : PySem.W.Frag} {Cl : Nat → Addr} {W : WX} {H H' H0 Hs Hs' : Hp} {a : Addr} {w w' : WAd} {s s' : WS} {Z Y : Addr → Prop} {σ σ' : St} {ρ ρ' : jc} {iw : Nat}
theorem zeq : ZA (Zo Z σ ρ) a w = Zo (ZA Z a w) σ ρ := funext fun b => propext ⟨fun h => by
  rcases h with (h | h) | h
  · exact .inl (.inl h)
  · exact .inr h
  · exact .inl (.inr h), fun h => by
  rcases h with (h | h) | h
  · exact .inl (.inl h)
  · exact .inr h
  · exact .inl (.inr h)⟩
section
variable {X : Cx} {o e : Expr} {es : List Expr} {g : FA} {pos cpos apos : Pos}
end
def ws0 : WS := ⟨0, [], 0, 0, -1, 0, 0, 0, [], [], [], []⟩
structure ydT (Cl : Nat → Addr) (H H' : Hp) (x dx : Addr) (w : WAd) (pr pt : Addr) : Prop where
  edx : w.dx = dx
  o : H' x = some (.ins (Cl 3000) dx ((waq 3000).zip (jcd w ws0 (.ref pr) (.ref pt))))
  d : H' dx = some (.own x)
  p : H' w.q = some (.lst [])
  r : H' w.r = some (.lst [])
  n : H' w.n = some (.dK [])
  hpr : H' pr = some (.lst [])
  hpt : H' pt = some (.lst [])
  nq : H w.q = none
  nr : H w.r = none
  nn : H w.n = none
  npr : H pr = none
  npt : H pt = none
  ap : w.q ≠ w.r ∧ pr ≠ w.q ∧ pr ≠ w.r ∧ pt ≠ w.q ∧ pt ≠ w.r
  keep : ∀ b o, H b = some o → b ≠ x → H' b = some o
  nf : ∀ b o xs, H' b = some (.frz o (.lst xs)) → H b = some (.frz o (.lst xs))
section
variable {X : Cx} {srest : List Stmt} {rest : FW} {pos p pos0 p1 : Pos}
end
end
section
variable {K : PySem.W.Frag} {Cl : Nat → Addr} {W : WX} {H H' H0 H1 H2 Hs Hs' : Hp} {a : Addr} {w w' : WAd} {s s' : WS} {Z Y : Addr → Prop} {σ σ' : St} {ρ ρ' : jc} {iw : Nat}
theorem xo.nk (S : xo K Cl H0 Z H σ ρ iw a w s) (sm : Same Cl H H1) {x : Addr} {u : HO} (hu : ∀ o v, u ≠ .frz o v) : ∀ b o xs, jk a w b → upd H1 x u b ≠ some (.frz o (.lst xs)) := fun b o xs h e => by
  by_cases z : b = x
  · rw [z, upd_same] at e
    exact hu _ _ (Option.some.inj e)
  · rw [upd_ne z, S.wa.kept sm h] at e
    obtain ⟨u2, e2, k⟩ := S.wa.at_ h
    rw [e2] at e
    cases e
    cases k
theorem xo.put (S : xo K Cl H0 Z H σ ρ iw a w s) (sm : Same Cl H H1) (nk : ∀ b o xs, jk a w b → H2 b ≠ some (.frz o (.lst xs))) (h2 : ∀ b, ¬ jk a w b → H2 b = H1 b) (new : ∀ b, jk a w' b → jk a w b ∨ H b = none) : After Cl H a w H2 w' := by
  have k1 : ∀ {b : Addr} {o : HO}, H1 b = some o → ((∃ ps, o = .tbl ps) ∨ ∃ q, o = LamX.CodeO b q) → ¬ jk a w b := fun {b o} e k z => by
    obtain ⟨u, e2, k2⟩ := S.wa.at_ z
    rw [S.wa.kept sm z, e2] at e
    cases e
    rcases k with ⟨ps, rfl⟩ | ⟨q, rfl⟩
    · cases k2
    · unfold LamX.CodeO at k2
      cases k2
  have tb : TBl Cl H → TBl Cl H2 := fun t q hq n => by
    obtain ⟨ps, e1, e2, e3⟩ := sm.tb t q hq n
    refine ⟨ps, by rw [h2 _ (k1 e1 (.inl ⟨ps, rfl⟩))]; exact e1, e2, fun pos cv hc => ?_⟩
    obtain ⟨c, e4, e5⟩ := e3 pos cv hc
    exact ⟨c, e4, by rw [h2 _ (k1 e5 (.inr ⟨_, rfl⟩))]; exact e5⟩
  refine ⟨⟨fun b o e t => ?_, fun _ => tb S.si.di.tb, fun b e => ?_, fun b o xs e => ?_⟩, tb, new⟩
  · obtain ⟨n, e1⟩ := zi e
    rw [h2 b n]
    exact sm.at e1 t
  · unfold hide at e
    split at e
    · exact absurd rfl e
    · rename_i n
      rw [h2 b n]
      exact sm.live b e
  · by_cases h : jk a w b
    · exact absurd e (nk b o xs h)
    · exact ze h (sm.nf b o xs (by rw [← h2 b h]; exact e))
section
variable {X : Cx} {o e : Expr} {f : Str} {fe : FE} {pos pos' apos cpos : Pos}
end
end
def wcH : D → Bool
  | .tuple es => es.all vj
  | _ => false
def jbi (ps : List (Int × D)) (k : Int) (d : D) : List (Int × D) := if (ps.any fun p => decide (p.1 = k)) = true then ps.map (fun p => if p.1 = k then (p.1, d) else p) else ps ++ [(k, d)]
section
variable {K : PySem.W.Frag} {Cl : Nat → Addr} {W : WX} {H H' H0 H1 H2 Hs Hs' : Hp} {a : Addr} {w w' : WAd} {s s' : WS} {Z Y : Addr → Prop} {σ σ' : St} {ρ ρ' : jc} {iw : Nat}
theorem qm.len : ∀ {kvs : List (Key × V)} {ps : List (Int × D)}, qm K Hs kvs ps → kvs.length = ps.length
  | _, _, .nil => rfl
  | _, _, .cons _ t => by rw [List.length_cons, List.length_cons, qm.len t]
theorem qm.any {k : Int} : ∀ {kvs : List (Key × V)} {ps : List (Int × D)}, qm K Hs kvs ps → (kvs.any fun kv => decide (kv.1 = (Sum.inl k : Key))) = ps.any fun p => decide (p.1 = k)
  | _, _, .nil => rfl
  | _, _, .cons (k := j) _ t => by
    rw [List.any_cons, List.any_cons, qm.any t]
    congr 1
    exact decide_eq_decide.mpr ⟨fun h => Sum.inl.inj h, fun h => congrArg Sum.inl h⟩
theorem qm.snoc {k : Int} {v : V} {d : D} (h : Dp K Hs v d) : ∀ {kvs : List (Key × V)} {ps : List (Int × D)}, qm K Hs kvs ps → qm K Hs (kvs ++ [(Sum.inl k, v)]) (ps ++ [(k, d)])
  | _, _, .nil => .cons h .nil
  | _, _, .cons q t => .cons q (qm.snoc h t)
theorem qm.repl {k : Int} {v : V} {d : D} (h : Dp K Hs v d) : ∀ {kvs : List (Key × V)} {ps : List (Int × D)}, qm K Hs kvs ps → qm K Hs (kvs.map fun kv => if kv.1 = (Sum.inl k : Key) then (kv.1, v) else kv) (ps.map fun p => if p.1 = k then (p.1, d) else p)
  | _, _, .nil => .nil
  | _, _, .cons (k := j) q t => by
    rw [List.map_cons, List.map_cons]
    by_cases z : j = k
    · subst z
      rw [if_pos rfl, if_pos rfl]
      exact .cons h (qm.repl h t)
    · rw [if_neg (fun y => z (Sum.inl.inj y)), if_neg z]
      exact .cons q (qm.repl h t)
theorem qm.put {k : Int} {v : V} {d : D} {kvs : List (Key × V)} {ps : List (Int × D)} (q : qm K Hs kvs ps) (h : Dp K Hs v d) : qm K Hs (putK kvs (Sum.inl k : Key) v) (jbi ps k d) := by
  unfold putK jbi
  rw [q.any]
  split
  · exact q.repl h
  · exact q.snoc h
theorem vcU {B : Addr → Prop} (hB : ∀ b, B b → ∃ u, H b = some u ∧ xaw u = true) {v : V} {d : D} (hd : Dp K (hide H Y) v d) (hs : wcH d = true) : Dp K (hide H fun b => Y b ∨ B b) v d := by
  cases d with
  | tuple es =>
    obtain ⟨T, xs, rfl, r1, r2⟩ := hd.kD
    have nk : ∀ {o : HO}, H T = some o → xaw o = false → ¬ B T := fun {o} e k z => by
      obtain ⟨u, e2, k2⟩ := hB T z
      rw [e] at e2
      cases e2
      rw [k] at k2
      cases k2
    refine .tup ?_ (DpAll.scalar hs r2)
    rcases r1 with (r1 | ⟨o, r1⟩) | r1
    · obtain ⟨n, e⟩ := zi r1
      exact .inl (.inl (ze (fun z => z.elim n (nk e rfl)) e))
    · obtain ⟨n, e⟩ := zi r1
      exact .inl (.inr ⟨o, ze (fun z => z.elim n (nk e rfl)) e⟩)
    · exact .inr r1
  | _ => cases hs
theorem xo.app {i : Int} (S : xo K Cl H0 Z H σ ρ iw a w s) : xo K Cl H0 Z (upd H w.q (.lst (s.zaa.map V.int ++ [.int i]))) σ ρ iw a w { s with zaa := s.zaa ++ [i] } := by
  obtain ⟨vr, vt, e1, e2, e3⟩ := S.wa.o
  have af := S.put (H1 := H) (H2 := upd H w.q (.lst (s.zaa.map V.int ++ [.int i]))) (w' := w) (Same.refl _) (S.nk (Same.refl _) fun _ _ z => nomatch z) (fun b n => upd_ne (fun z => n (.inr (.inr (.inl z))))) (fun b h => .inl h)
  have m := S.kbh af
  have ne : ∀ {b : Addr} {o : HO}, H b = some o → (∀ l, o ≠ .lst l) → b ≠ w.q := fun {b o} h n z => by
    rw [z, S.wa.p] at h
    exact n _ (Option.some.inj h).symm
  obtain ⟨xs, e4, e5⟩ := S.wa.sp
  obtain ⟨kvs, e6, e7⟩ := S.wa.nm
  refine S.after af ⟨⟨vr, vt, ?_, Dp.same m e2, Dp.same m e3⟩, ?_, ?_, ⟨xs, ?_, DpAll.same m e5⟩, ⟨kvs, ?_, e7.same m⟩, S.wa.qr⟩
  · rw [upd_ne (ne e1 fun _ z => by cases z)]
    exact e1
  · rw [upd_ne (ne S.wa.d fun _ z => by cases z)]
    exact S.wa.d
  · rw [upd_same]
    show _ = some (HO.lst ((s.zaa ++ [i]).map V.int))
    rw [List.map_append]
    rfl
  · rw [upd_ne S.wa.qr.symm]
    exact e4
  · rw [upd_ne (ne e6 fun _ z => by cases z)]
    exact e6
theorem xo.tup (S : xo K Cl H0 Z H σ ρ iw a w s) {v : V} {d : D} (hd : Dp K (hide H (Zo Z σ (ρ.set iw (.ob 3000 s.of)))) v d) (hs : wcH d = true) : Dp K (hide H (Zo (ZA Z a w) σ (ρ.set iw (.pin a)))) v d :=
  Dp.same (vd (zd.refl _) fun b hb => .inl (by
    rcases hb with (hb | hb) | hb
    · exact .inl (.inl hb)
    · exact .inr hb
    · exact .inl (.inr ((S.kcG b).mpr hb)))) (vcU (B := jk a w) (fun b hb => S.wa.at_ hb) hd hs)
section
variable {X : Cx} {o e i : Expr} {fe fk : FE} {pos pos' apos cpos : Pos}
end
end
theorem jbJ : ∀ {ns : List Str} {vs : List V} {f : Str} {y : V}, f ∉ ns → vs.length = ns.length → putF f y (ns.zip vs) = (ns ++ [f]).zip (vs ++ [y])
  | [], [], f, y, _, _ => rfl
  | [], _ :: _, _, _, _, h => nomatch h
  | _ :: _, [], _, _, _, h => nomatch h
  | n :: ns, v :: vs, f, y, h1, h2 => by
    show (if n = f then (n, y) :: ns.zip vs else (n, v) :: putF f y (ns.zip vs)) = _
    rw [if_neg (fun z => h1 (by rw [z]; exact List.mem_cons_self)), jbJ (fun z => h1 (List.mem_cons_of_mem _ z)) (Nat.succ.inj h2)]
    rfl
structure Par (C : Addr) (H H' : Hp) (x dx : Addr) (ns : List Str) (vs : List V) (ls : List (Addr × HO)) : Prop where
  o : H' x = some (.ins C dx (ns.zip vs))
  hx : H x = some (.ins C dx [])
  ln : vs.length = ns.length
  hl : ∀ p ∈ ls, H' p.1 = some p.2 ∧ H p.1 = none
  nd : (ls.map (·.1)).Nodup
  keep : ∀ b o, H b = some o → b ≠ x → H' b = some o
  nf : ∀ b o xs, H' b = some (.frz o (.lst xs)) → H b = some (.frz o (.lst xs))
section
variable {K : PySem.W.Frag} {C : Addr} {H H' : Hp} {x dx p : Addr} {ns : List Str} {vs : List V} {ls : List (Addr × HO)} {f : Str} {v : V} {o : HO} {D : Ends}
theorem Par.ne (S : Par C H H' x dx ns vs ls) {q : Addr × HO} (h : q ∈ ls) : q.1 ≠ x := fun z => by
  have := (S.hl q h).2
  rw [z, S.hx] at this
  cases this
theorem Par.val (S : Par C H H' x dx ns vs ls) (n : f ∉ ns) : Par C H (upd H' x (.ins C dx (putF f v (ns.zip vs)))) x dx (ns ++ [f]) (vs ++ [v]) ls :=
  ⟨by rw [upd_same, jbJ n S.ln], S.hx, by rw [List.length_append, List.length_append, S.ln]; rfl, fun q h => ⟨by rw [upd_ne (S.ne h)]; exact (S.hl q h).1, (S.hl q h).2⟩, S.nd, fun b o e n => (by rw [upd_ne n]; exact S.keep b o e n), fun b o xs e => (by
    by_cases z : b = x
    · rw [z, upd_same] at e
      cases e
    · rw [upd_ne z] at e
      exact S.nf b o xs e)⟩
theorem Par.ob (S : Par C H H' x dx ns vs ls) (np : H' p = none) (no : ∀ o' v', o ≠ .frz o' v') : Par C H (upd H' p o) x dx ns vs (ls ++ [(p, o)]) := by
  have nx : x ≠ p := ne_of_none S.o np
  have nH : H p = none := by
    cases e : H p with
    | none => rfl
    | some u =>
      by_cases z : p = x
      · exact absurd z.symm nx
      · rw [S.keep p u e z] at np
        cases np
  refine ⟨by rw [upd_ne nx]; exact S.o, S.hx, S.ln, fun q h => ?_, ?_, fun b o e n => (by rw [upd_ne (ne_of_none e nH)]; exact S.keep b o e n), fun b o' xs e => (by
    by_cases z : b = p
    · rw [z, upd_same] at e
      exact absurd (Option.some.inj e) (no _ _)
    · rw [upd_ne z] at e
      exact S.nf b o' xs e)⟩
  · rcases List.mem_append.mp h with h | h
    · refine ⟨?_, (S.hl q h).2⟩
      rw [upd_ne (ne_of_none (S.hl q h).1 np)]
      exact (S.hl q h).1
    · cases List.mem_singleton.mp h
      exact ⟨upd_same, nH⟩
  · rw [List.map_append, List.nodup_append]
    refine ⟨S.nd, List.nodup_cons.mpr ⟨List.not_mem_nil, List.nodup_nil⟩, fun a ha b hb => ?_⟩
    obtain ⟨q, hq, rfl⟩ := List.mem_map.mp ha
    cases List.mem_singleton.mp hb
    exact ne_of_none (S.hl q hq).1 np
end
section
variable {K : PySem.W.Frag} {Cl : Nat → Addr} {vs : List V} {H : Hp} {Q : VK} {E : XK} {D : Ends}
end
section
variable {X : Cx} {Cl : Nat → Addr} {W : WX} {st : Stmt}
end
section
variable {X : Cx} {Cl : Nat → Addr} {W : WX} {a b c : Expr} {g : FA} {pos : Pos} {K : PySem.W.Frag} {H : Hp} {Z : Addr → Prop} {σ : St} {ρ : jc}
end
section
variable {X : Cx} {Cl : Nat → Addr} {W : WX} {e : Expr} {es : List Expr} {g : FA} {f2 : FE} {t1 t3 : FT} {rest : FS}
end
def kbo (K : PySem.W.Frag) (k : Nat) (H H' : Hp) (v : V) (d : D) : Prop := ∃ (T : Addr) (ys : List V) (ds : List D) (q : Addr) (zs : List V) (ws : List D), v = V.ref T ∧ d = .tuple ds ∧ SqT K H' T ys ∧ ys[k]? = some (V.ref q) ∧ ds[k]? = some (.list ws) ∧ H q = none ∧ H' q = some (.lst zs) ∧ zs.length = ws.length
abbrev TY := List D → Option D
section
variable {K : PySem.W.Frag} {Cl : Nat → Addr} {H H0 H1 H2 : Hp} {k : Nat} {v : V} {d : D}
theorem kbo.same (t : kbo K k H0 H1 v d) (s : Same Cl H1 H2) : kbo K k H0 H2 v d := by
  obtain ⟨T, ys, ds, q, zs, ws, e1, e2, h1, h2, h3, h4, h5, h6⟩ := t
  exact ⟨T, ys, ds, q, zs, ws, e1, e2, SqT.same s.d h1, h2, h3, h4, s.at h5, h6⟩
theorem kbo.from (t : kbo K k H1 H2 v d) (s : Same Cl H0 H1) : kbo K k H0 H2 v d := by
  obtain ⟨T, ys, ds, q, zs, ws, e1, e2, h1, h2, h3, h4, h5, h6⟩ := t
  exact ⟨T, ys, ds, q, zs, ws, e1, e2, h1, h2, h3, s.free h4, h5, h6⟩
end
section
variable {K : PySem.W.Frag} {Cl : Nat → Addr}
theorem ycA {vs : List V} {ds : List D} {m : Nat} {i : Nat} {a : Addr} (ho : qo (vs.map some ++ List.replicate m none) (ds.map .dat ++ List.replicate m .un) i a) : False := by
  obtain ⟨s, h2, h3⟩ := ho.slot
  rw [List.getElem?_append] at h2
  split at h2
  · rw [List.getElem?_map] at h2
    cases e : ds[i]? with
    | none => rw [e] at h2; cases h2
    | some d => rw [e] at h2; cases h2; cases h3
  · rw [List.getElem?_replicate] at h2
    split at h2
    · cases h2; cases h3
    · cases h2
theorem SI.start {Z : Addr → Prop} {H : Hp} {vs : List V} {ds : List D} {m : Nat} (live : ybo Cl Z H) (h : DpAll K (hide H Z) vs ds) : SI K Cl H Z H (vs.map some ++ List.replicate m none) (ds.map .dat ++ List.replicate m .un) :=
  ⟨DI.start live h, Same.refl _, fun b ⟨i, o⟩ => (ycA o).elim⟩
end
section
variable {X : Cx} {Cl : Nat → Addr} {W : WX} {a b : Expr} {fa fb : FE}
end
section
variable {K : PySem.W.Frag} {Cl : Nat → Addr} {Hs : Hp}
theorem qm.at {n : Int} {d : D} : ∀ {kvs : List (Key × V)} {ps : List (Int × D)}, qm K Hs kvs ps → wa3 ps n = some d → ∃ (v : V) (j : Nat), valV kvs (Sum.inl n : Key) = some v ∧ kvs[j]? = some ((Sum.inl n : Key), v) ∧ ps[j]? = some (n, d) ∧ Dp K Hs v d
  | _, _, .nil, e => by cases e
  | _, _, .cons (k := k) (v := v) (d := d0) (kvs := kvs) (ps := ps) h t, e => by
    unfold wa3 at e
    by_cases z : k = n
    · subst z
      rw [if_pos rfl] at e
      cases e
      exact ⟨v, 0, valV_pos (p := ((Sum.inl k : Key), v)) rfl, rfl, rfl, h⟩
    · rw [if_neg z] at e
      obtain ⟨v2, j, h1, h2, h3, h4⟩ := qm.at t e
      exact ⟨v2, j + 1, by rw [valV_neg (p := ((Sum.inl k : Key), v)) (fun y => z (Sum.inl.inj y))]; exact h1, by simpa using h2, by simpa using h3, h4⟩
theorem SI.kdb {H0 H : Hp} {Z : Addr → Prop} {σ : St} {ρ : jc} (I : SI K Cl H0 Z H σ ρ) {q : Addr} {ys zs : List (Key × V)} (hz : Z q) (h0 : H0 q = none) (hq : H q = some (.dK ys)) : SI K Cl H0 Z (upd H q (.dK zs)) σ ρ := by
  have hm : zd (hide H (Zo Z σ ρ)) (hide (upd H q (.dK zs)) (Zo Z σ ρ)) := fun b o e _ => by
    obtain ⟨n, e1⟩ := zi e
    exact ze n (by rw [upd_ne fun z => n (.inl (by rw [z]; exact hz))]; exact e1)
  have no : ∀ a, qk σ ρ a → a ≠ q := fun a o z => I.di.out a o (by rw [z]; exact hz)
  have n1 : ∀ ps, (HO.dK ys) ≠ .tbl ps := fun ps z => nomatch z
  have n2 : ∀ s, (HO.dK ys) ≠ LamX.CodeO q s := fun s z => by unfold LamX.CodeO at z; cases z
  refine ⟨⟨I.di.len, I.di.one, I.di.out, fun a z => ?_, fun i t e => ?_, I.di.tb.qbG hq n1 n2⟩, I.same.qbG h0 hq n1 n2 (fun _ _ z => nomatch z), I.new⟩
  · by_cases e : a = q
    · rw [e, upd_same]
      intro z; cases z
    · rw [upd_ne e]
      exact I.di.live a z
  · have k := I.di.slots i t e
    cases t with
    | un => trivial
    | dat d =>
      obtain ⟨v, e1, h1⟩ := k
      exact ⟨v, e1, Dp.same hm h1⟩
    | own ds =>
      obtain ⟨a, xs, e1, e2, h1⟩ := k
      exact ⟨a, xs, e1, by rw [upd_ne (no a ⟨i, .inl ⟨e1, ds, e⟩⟩)]; exact e2, DpAll.same hm h1⟩
    | err a dd j =>
      have nd : dd ≠ q := fun z => by
        have k2 := k.2
        rw [z, hq] at k2
        cases k2
      exact ⟨k.1, by rw [upd_ne nd]; exact k.2⟩
    | ownT a k' gs =>
      obtain ⟨T, e1, h1⟩ := k
      exact ⟨T, e1, h1.same hm fun _ z => by rw [upd_ne (no a ⟨i, .inr (.inl ⟨k', gs, e⟩)⟩)]; exact z⟩
    | pin a => exact k
    | ob k fs => exact z6.same hm k
    | yV a c =>
      obtain ⟨e1, u, e2, h1⟩ := k
      exact ⟨e1, u, by rw [upd_ne (no a ⟨i, .inr (.inr ⟨c, e⟩)⟩)]; exact e2, h1.same hm⟩
end
section
variable {X : Cx} {Cl : Nat → Addr} {W : WX} {tg iter c1 ke ke2 ae : Expr} {it : FI} {g : FG} {t1 : FT} {fk : FE} {ga : FA} {F : TY}
end
section
variable {P : Program} {w : World} {A : Around} {E : Value → Shared → Prop} {s : Shared}
end
section
variable {X : Cx} {Cl : Nat → Addr} {W : WX} {e : Expr} {fe : FE}
end
structure RS where
  ws : WS
  found : List D
  cont : List (Int × D)
structure v5 where
  dx : Addr
  a : Addr
  w : WAd
  f : Addr
  c : Addr
  k : Addr
def xcA (r : Addr) (x : v5) : Addr → Prop := fun b => b = r ∨ b = x.dx ∨ b = x.f ∨ b = x.c ∨ b = x.k
def inR (r : Addr) (x : v5) : Addr → Prop := fun b => xcA r x b ∨ jk x.a x.w b
def zbG (x : v5) : List V := [.ref x.a, .ref x.f, .ref x.c, .ref x.k]
structure RA (K : PySem.W.Frag) (Cl : Nat → Addr) (H Hs : Hp) (r : Addr) (x : v5) (s : RS) : Prop where
  o : H r = some (.ins (Cl 3001) x.dx ((waq 3001).zip (zbG x)))
  d : H x.dx = some (.own r)
  wa : WA K Cl H Hs x.a x.w s.ws
  f : ∃ xs, H x.f = some (.lst xs) ∧ DpAll K Hs xs s.found
  c : ∃ kvs, H x.c = some (.dK kvs) ∧ qm K Hs kvs s.cont
  k : H x.k = some (.lst [])
  ap : ∀ b, xcA r x b → ¬ jk x.a x.w b
  fk : x.f ≠ x.k
def ZR (Z : Addr → Prop) (r : Addr) (x : v5) : Addr → Prop := fun b => Z b ∨ inR r x b
structure vaQ (Cl : Nat → Addr) (H : Hp) (r : Addr) (x : v5) (H' : Hp) (x' : v5) : Prop where
  s : Same Cl (hide H (inR r x)) H'
  tb : TBl Cl H → TBl Cl H'
  new : ∀ b, inR r x' b → inR r x b ∨ H b = none
section
variable {K : PySem.W.Frag} {Cl : Nat → Addr} {H H' H0 H1 H2 Hs Hs' : Hp} {r : Addr} {x x' : v5} {s s' : RS} {Z Y : Addr → Prop} {σ σ' : St} {ρ ρ' : jc}
theorem RA.at_ (h : RA K Cl H Hs r x s) {b : Addr} (hb : inR r x b) : ∃ u, H b = some u ∧ xaw u = true := by
  obtain ⟨xs, h2, _⟩ := h.f
  obtain ⟨kvs, h3, _⟩ := h.c
  rcases hb with (rfl | rfl | rfl | rfl | rfl) | hb
  · exact ⟨_, h.o, rfl⟩
  · exact ⟨_, h.d, rfl⟩
  · exact ⟨_, h2, rfl⟩
  · exact ⟨_, h3, rfl⟩
  · exact ⟨_, h.k, rfl⟩
  · exact h.wa.at_ hb
theorem RA.same (h : RA K Cl H Hs r x s) (h1 : ∀ b, inR r x b → H' b = H b) (m : zd Hs Hs') : RA K Cl H' Hs' r x s := by
  obtain ⟨xs, e1, e2⟩ := h.f
  obtain ⟨kvs, e3, e4⟩ := h.c
  exact ⟨by rw [h1 _ (.inl (.inl rfl))]; exact h.o, by rw [h1 _ (.inl (.inr (.inl rfl)))]; exact h.d, h.wa.same (fun b hb => h1 b (.inr hb)) m, ⟨xs, by rw [h1 _ (.inl (.inr (.inr (.inl rfl))))]; exact e1, DpAll.same m e2⟩,
    ⟨kvs, by rw [h1 _ (.inl (.inr (.inr (.inr (.inl rfl)))))]; exact e3, e4.same m⟩, by rw [h1 _ (.inl (.inr (.inr (.inr (.inr rfl)))))]; exact h.k, h.ap, h.fk⟩
theorem RA.kept (h : RA K Cl H Hs r x s) (sm : Same Cl H H') {b : Addr} (hb : inR r x b) : H' b = H b := by
  obtain ⟨u, e, k⟩ := h.at_ hb
  rw [e, sm.at e (kaI k)]
theorem RA.up (h : RA K Cl H (hide H Y) r x s) (sm : Same Cl H H') : RA K Cl H' (hide H' Y) r x s := h.same (fun b hb => h.kept sm hb) (xl sm fun _ h => .inl h)
theorem Same.hidden {S : Addr → Prop} (sm : Same Cl H0 H) (n : ∀ b, S b → H0 b = none) (k : ∀ b, S b → ∃ u, H b = some u ∧ xaw u = true) : Same Cl H0 (hide H S) := by
  have nS : ∀ {b : Addr}, H0 b ≠ none → ¬ S b := fun {b} e z => e (n b z)
  have nt : ∀ {b : Addr} {o : HO}, H b = some o → ((∃ ps, o = .tbl ps) ∨ ∃ q, o = LamX.CodeO b q) → ¬ S b := fun {b o} e k2 z => by
    obtain ⟨u, e2, k3⟩ := k b z
    rw [e] at e2
    cases e2
    rcases k2 with ⟨ps, rfl⟩ | ⟨q, rfl⟩
    · cases k3
    · unfold LamX.CodeO at k3
      cases k3
  refine ⟨fun b o e t => ze (nS (by rw [e]; intro z; cases z)) (sm.d b o e t), fun t q hq m => ?_, fun b e z => ?_, fun b o xs e => sm.nf b o xs (zi e).2⟩
  · obtain ⟨ps, h1, h2, h3⟩ := sm.tb t q hq m
    refine ⟨ps, ze (nt h1 (.inl ⟨ps, rfl⟩)) h1, h2, fun pos cv hc => ?_⟩
    obtain ⟨c, e1, e2⟩ := h3 pos cv hc
    exact ⟨c, e1, ze (nt e2 (.inr ⟨_, rfl⟩)) e2⟩
  · unfold hide at z
    rw [if_neg (nS e)] at z
    exact sm.live b e z
end
abbrev FC := D → List (Int × D) → Option (List D)
section
variable {K : PySem.W.Frag} {Cl : Nat → Addr}
end
section
variable {X : Cx} {Cl : Nat → Addr} {W : WX} {c1 ke e0 : Expr} {t1 : FT} {fk : FE} {fin : FS} {tr : Stmt}
end
abbrev RF := RS → List D → Option (RS × List D)
theorem vc1 : (waq 3001).Nodup := by decide +kernel
section
variable {K : PySem.W.Frag} {Cl : Nat → Addr} {H H' H0 H1 H2 Hs Hs' : Hp} {r : Addr} {x x' : v5} {s s' : RS} {Z Y Y' : Addr → Prop} {σ σ' : St} {ρ ρ' : jc}
theorem RA.mv (h : RA K Cl H (hide H Y) r x s) (sm : Same Cl H H') (y : ∀ b, Y' b → Y b ∨ H b = none) : RA K Cl H' (hide H' Y') r x s := h.same (fun b hb => h.kept sm hb) (xl sm y)
theorem RA.look (h : RA K Cl H Hs r x s) {j : Nat} {f : Str} {v : V} (h1 : (waq 3001)[j]? = some f) (h2 : (zbG x)[j]? = some v) : ((waq 3001).zip (zbG x)).lookup f = some v := xbh vc1 h1 h2
structure RB (K : PySem.W.Frag) (Cl : Nat → Addr) (H0 : Hp) (Z : Addr → Prop) (H : Hp) (σ : St) (ρ : jc) (r : Addr) (x : v5) (s : RS) : Prop where
  si : SI K Cl (hide H0 (inR r x)) (ZR Z r x) H σ ρ
  ra : RA K Cl H (hide H (Zo (ZR Z r x) σ ρ)) r x s
  nz : ∀ b, inR r x b → ¬ Z b
  me : ρ[0]? = some (.pin r)
theorem RB.up (B : RB K Cl H0 Z H σ ρ r x s) (sm : Same Cl H H') : RB K Cl H0 Z H' σ ρ r x s := ⟨B.si.zu sm, B.ra.up sm, B.nz, B.me⟩
theorem RB.var (B : RB K Cl H0 Z H σ ρ r x s) : σ[0]? = some (some (.ref r)) := B.si.di.slots 0 _ B.me
theorem RB.yz (B : RB K Cl H0 Z H σ ρ r x s) {i : Nat} {v : V} {d : DL.D} (hi : i ≠ 0) (h : Dp K (hide H (Zo (ZR Z r x) σ ρ)) v d) : RB K Cl H0 Z H (σ.set i (some v)) (ρ.set i (.dat d)) r x s :=
  ⟨B.si.yz h, B.ra.mv (Same.refl _) fun b hb => .inl (hb.imp id fun ⟨j, q⟩ => ⟨j, qy (s := .dat d) (fun z => nomatch z) q⟩), B.nz, by rw [List.getElem?_set_ne hi]; exact B.me⟩
theorem RB.ja3 (B : RB K Cl H0 Z H σ ρ r x s) {i : Nat} {p : Addr} {xs : List V} {ds : List DL.D} (hi : i ≠ 0) (np : H p = none) (h : DpAll K (hide (upd H p (.lst xs)) (ZP (Zo (ZR Z r x) σ ρ) p)) xs ds) : RB K Cl H0 Z (upd H p (.lst xs)) (σ.set i (some (.ref p))) (ρ.set i (.own ds)) r x s := by
  have sm : Same Cl H (upd H p (.lst xs)) := jv np
  refine ⟨B.si.ja3 sm np upd_same h, B.ra.mv sm fun b hb => ?_, B.nz, by rw [List.getElem?_set_ne hi]; exact B.me⟩
  rcases hb with hb | ⟨j, hb⟩
  · exact .inl (.inl hb)
  · by_cases hj : i = j
    · subst hj
      obtain ⟨h1, ds', h2⟩ | ⟨k, ds', h2⟩ | ⟨c, h2⟩ := hb
      · have hlt : i < (σ.set i (some (.ref p))).length := (List.getElem?_eq_some_iff.mp h1).1
        rw [List.length_set] at hlt
        rw [List.getElem?_set, if_pos rfl, if_pos hlt] at h1
        cases h1
        exact .inr np
      · rw [List.getElem?_set, if_pos rfl] at h2
        split at h2 <;> cases h2
      · rw [List.getElem?_set, if_pos rfl] at h2
        split at h2 <;> cases h2
    · unfold qo at hb
      rw [List.getElem?_set_ne hj, List.getElem?_set_ne hj] at hb
      exact .inl (.inr ⟨j, hb⟩)
theorem RB.out (B : RB K Cl H0 Z H σ ρ r x s) {b : Addr} (o : qk σ ρ b) : ¬ inR r x b := fun z => B.si.di.out b o (.inr z)
end
section
variable {X : Cx} {Cl : Nat → Addr} {W : WX} {H H0 : Hp} {r : Addr} {x : v5} {s s' : RS} {Z : Addr → Prop} {σ : St} {ρ : jc}
end
section
variable {K : PySem.W.Frag} {Cl : Nat → Addr} {W : WX} {H H' H0 H1 : Hp} {r : Addr} {x : v5} {s s' : RS} {Z Y : Addr → Prop} {σ σ' : St} {ρ ρ' : jc} {D : Ends}
theorem RB.step (B : RB K Cl H0 Z H σ ρ r x s) (I : SI K Cl (ku H σ ρ) (ZR Z r x) H' σ' ρ') (hp : ρ'[0]? = some (.pin r)) : RB K Cl H0 Z H' σ' ρ' r x s := by
  obtain ⟨b0, I2⟩ := B.si.based
  refine ⟨I.rebase b0, B.ra.same (fun b hb => ?_) I.kept, B.nz, hp⟩
  obtain ⟨u, e, k⟩ := B.ra.at_ hb
  rw [e]
  exact I.same.at (qI (fun z => B.out z hb) e) (kaI k)
theorem RB.ts {f : FS} (B : RB K Cl H0 Z H σ ρ r x s) (e : f ρ = some (.nx ρ')) (hp : ρ'[0]? = some (.pin r)) (k : ∀ σ' H', RB K Cl H0 Z H' σ' ρ' r x s → D.nx σ' H') : za2 K Cl W f D σ H :=
  ⟨_, _, ρ, .nx ρ', B.si.based.2, e, fun σ' H' I => k σ' H' (B.step I hp)⟩
theorem RB.zeq (r : Addr) (x : v5) (Z : Addr → Prop) (σ : St) (ρ : jc) : Zo (ZR Z r x) σ ρ = ZA (fun b => Zo Z σ ρ b ∨ xcA r x b) x.a x.w := funext fun b => propext ⟨fun h => by
  rcases h with (h | h | h) | h
  · exact .inl (.inl (.inl h))
  · exact .inl (.inr h)
  · exact .inr h
  · exact .inl (.inl (.inr h)), fun h => by
  rcases h with ((h | h) | h) | h
  · exact .inl (.inl h)
  · exact .inr h
  · exact .inl (.inr (.inl h))
  · exact .inl (.inr (.inr h))⟩
theorem zaJ {q : Addr} {u : HO} (h : Y q) : zd (hide H Y) (hide (upd H q u) Y) := fun b o e _ => by
  obtain ⟨n, e1⟩ := zi e
  exact ze n (by rw [upd_ne fun z => n (by rw [z]; exact h)]; exact e1)
theorem RB.found (B : RB K Cl H0 Z H σ ρ r x s) {v : V} {d : DL.D} {xs : List V} (hx : H x.f = some (.lst xs)) (hxs : DpAll K (hide H (Zo (ZR Z r x) σ ρ)) xs s.found) (hd : Dp K (hide H (Zo (ZR Z r x) σ ρ)) v d) : RB K Cl H0 Z (upd H x.f (.lst (xs ++ [v]))) σ ρ r x { s with found := s.found ++ [d] } := by
  have A := B.ra
  have inf : inR r x x.f := .inl (.inr (.inr (.inl rfl)))
  have m : zd (hide H (Zo (ZR Z r x) σ ρ)) (hide (upd H x.f (.lst (xs ++ [v]))) (Zo (ZR Z r x) σ ρ)) := zaJ (.inl (.inr inf))
  have nI : r ≠ x.f := fun z => by
    have := A.o
    rw [z, hx] at this
    cases this
  have nD : x.dx ≠ x.f := fun z => by
    have := A.d
    rw [z, hx] at this
    cases this
  obtain ⟨kvs, c1, c2⟩ := A.c
  have nC : x.c ≠ x.f := fun z => by
    rw [z, hx] at c1
    cases c1
  refine ⟨B.si.jbf (.inr inf) (by unfold hide; rw [if_pos inf]) hx, ⟨by rw [upd_ne nI]; exact A.o, by rw [upd_ne nD]; exact A.d, A.wa.same (fun b hb => upd_ne fun z => A.ap x.f (.inr (.inr (.inl rfl))) (by rw [← z]; exact hb)) m, ⟨_, upd_same, (DpAll.same m hxs).append (.cons (Dp.same m hd) .nil)⟩, ⟨kvs, by rw [upd_ne nC]; exact c1, c2.same m⟩, by rw [upd_ne (Ne.symm A.fk)]; exact A.k, A.ap, A.fk⟩, B.nz, B.me⟩
theorem RB.cont (B : RB K Cl H0 Z H σ ρ r x s) {v : V} {k : Int} {d : DL.D} {kvs : List (Key × V)} (hx : H x.c = some (.dK kvs)) (hk : qm K (hide H (Zo (ZR Z r x) σ ρ)) kvs s.cont) (hd : Dp K (hide H (Zo (ZR Z r x) σ ρ)) v d) : RB K Cl H0 Z (upd H x.c (.dK (putK kvs (Sum.inl k : Key) v))) σ ρ r x { s with cont := jbi s.cont k d } := by
  have A := B.ra
  have inc : inR r x x.c := .inl (.inr (.inr (.inr (.inl rfl))))
  have m : zd (hide H (Zo (ZR Z r x) σ ρ)) (hide (upd H x.c (.dK (putK kvs (Sum.inl k : Key) v))) (Zo (ZR Z r x) σ ρ)) := zaJ (.inl (.inr inc))
  have nI : r ≠ x.c := fun z => by
    have := A.o
    rw [z, hx] at this
    cases this
  have nD : x.dx ≠ x.c := fun z => by
    have := A.d
    rw [z, hx] at this
    cases this
  have nK : x.k ≠ x.c := fun z => by
    have := A.k
    rw [z, hx] at this
    cases this
  obtain ⟨xs, f1, f2⟩ := A.f
  have nF : x.f ≠ x.c := fun z => by
    rw [z, hx] at f1
    cases f1
  refine ⟨B.si.kdb (.inr inc) (by unfold hide; rw [if_pos inc]) hx, ⟨by rw [upd_ne nI]; exact A.o, by rw [upd_ne nD]; exact A.d, A.wa.same (fun b hb => upd_ne fun z => A.ap x.c (.inr (.inr (.inr (.inl rfl)))) (by rw [← z]; exact hb)) m, ⟨xs, by rw [upd_ne nF]; exact f1, DpAll.same m f2⟩, ⟨_, upd_same, (c2_put m hk hd)⟩, by rw [upd_ne nK]; exact A.k, A.ap, A.fk⟩, B.nz, B.me⟩
where c2_put {H1 Hs : Hp} (m : zd Hs H1) (hk : qm K Hs kvs s.cont) (hd : Dp K Hs v d) : qm K H1 (putK kvs (Sum.inl k : Key) v) (jbi s.cont k d) := (hk.same m).put (Dp.same m hd)
end
section
variable {X : Cx} {Cl : Nat → Addr} {W : WX} {H H0 : Hp} {r : Addr} {x : v5} {s s' : RS} {Z : Addr → Prop} {σ : St} {ρ ρ' : jc} {Q : VK} {E : St → XK}
end
section
variable {X : Cx} {Cl : Nat → Addr} {W : WX} {E1 E2 E3 : St → XK} {F1 : MF} {F2 : WF} {FCn : FC} {g1 g2 : FA} {s2 s3 : FS} {t1 : FT} {fl fu ff fk fc : FE} {e1 e4 e5 e6 e10 c1 : Expr} {st2 st9 : Stmt}
end
section
variable {K : PySem.W.Frag} {Cl : Nat → Addr} {H : Hp} {r : Addr} {x : v5} {s : RS} {Z : Addr → Prop}
theorem RB.start {rest : List V} {ds : List D} {m : Nat} (live : ybo Cl (ZR Z r x) H) (ra : RA K Cl H (hide H (ZR Z r x)) r x s) (nz : ∀ b, inR r x b → ¬ Z b) (h : DpAll K (hide H (ZR Z r x)) rest ds) : RB K Cl H Z H (some (.ref r) :: (rest.map some ++ List.replicate m none)) (.pin r :: (ds.map .dat ++ List.replicate m .un)) r x s := by
  have no : ∀ i b, ¬ qo (some (.ref r) :: (rest.map some ++ List.replicate m none)) (.pin r :: (ds.map .dat ++ List.replicate m .un)) i b := fun i b ho => by
    obtain ⟨t, h2, h3⟩ := ho.slot
    cases i with
    | zero => cases h2; cases h3
    | succ i =>
      have h2 : (ds.map Slot.dat ++ List.replicate m .un)[i]? = some t := h2
      rw [List.getElem?_append] at h2
      split at h2
      · rw [List.getElem?_map] at h2
        cases e : ds[i]? with
        | none => rw [e] at h2; cases h2
        | some d => rw [e] at h2; cases h2; cases h3
      · rw [List.getElem?_replicate] at h2
        split at h2
        · cases h2; cases h3
        · cases h2
  have hl := h.length
  have hm : zd (hide H (ZR Z r x)) (hide H (Zo (ZR Z r x) (some (.ref r) :: (rest.map some ++ List.replicate m none)) (.pin r :: (ds.map .dat ++ List.replicate m .un)))) := vd (zd.refl _) fun b hb => .inl (hb.elim id fun ⟨j, z⟩ => absurd z (no j b))
  have base : Same Cl (hide H (inR r x)) H := ⟨fun b o e _ => (zi e).2, fun _ => live.tb, fun b e z => e (by unfold hide; rw [z]; split <;> rfl), fun b o xs e => ze (fun z => by
    obtain ⟨u, e2, k⟩ := ra.at_ z
    rw [e] at e2
    cases e2
    cases k) e⟩
  refine ⟨⟨⟨by simp [hl], fun i j b h1 => absurd h1 (no i b), fun b ⟨i, z⟩ => absurd z (no i b), live.lv, fun i t e => ?_, live.tb⟩, base, fun b ⟨i, z⟩ => absurd z (no i b)⟩, ra.same (fun _ _ => rfl) hm, nz, rfl⟩
  cases i with
  | zero =>
    cases e
    exact rfl
  | succ i =>
    have e : (ds.map Slot.dat ++ List.replicate m .un)[i]? = some t := e
    show ka1 K Cl H _ ((rest.map some ++ List.replicate m none)[i]?) t
    rw [List.getElem?_append] at e
    split at e
    · rename_i hi
      rw [List.length_map] at hi
      rw [List.getElem?_map] at e
      cases e1 : ds[i]? with
      | none => rw [e1] at e; cases e
      | some d =>
        rw [e1] at e
        cases e
        obtain ⟨v, e2, e3⟩ := h.get e1
        refine ⟨v, ?_, Dp.same hm e3⟩
        rw [List.getElem?_append_left (by rw [List.length_map, hl]; exact hi), List.getElem?_map, e2]
        rfl
    · rw [List.getElem?_replicate] at e
      split at e
      · cases e; trivial
      · cases e
end
structure RL (K : PySem.W.Frag) (Cl : Nat → Addr) (Hb : Hp) (Z : Addr → Prop) (H : Hp) (σ : St) (ρ : jc) (r : Addr) (x : v5) (s : RS) : Prop where
  si : SI K Cl Hb (ZR Z r x) H σ ρ
  ra : RA K Cl H (hide H (Zo (ZR Z r x) σ ρ)) r x s
  nz : ∀ b, inR r x b → ¬ Z b
  me : ρ[0]? = some (.pin r)
  h0 : ∀ b, inR r x b → Hb b = none
section
variable {K : PySem.W.Frag} {Cl : Nat → Addr} {W : WX} {H H' Hb Hc H1 : Hp} {r : Addr} {x x' : v5} {s s' : RS} {Z Y : Addr → Prop} {σ σ' : St} {ρ ρ' : jc} {D : Ends}
theorem RL.up (B : RL K Cl Hb Z H σ ρ r x s) (sm : Same Cl H H') : RL K Cl Hb Z H' σ ρ r x s := ⟨B.si.zu sm, B.ra.up sm, B.nz, B.me, B.h0⟩
theorem RL.var (B : RL K Cl Hb Z H σ ρ r x s) : σ[0]? = some (some (.ref r)) := B.si.di.slots 0 _ B.me
theorem RL.out (B : RL K Cl Hb Z H σ ρ r x s) {b : Addr} (o : qk σ ρ b) : ¬ inR r x b := fun z => B.si.di.out b o (.inr z)
theorem RL.yz (B : RL K Cl Hb Z H σ ρ r x s) {i : Nat} {v : V} {d : DL.D} (hi : i ≠ 0) (h : Dp K (hide H (Zo (ZR Z r x) σ ρ)) v d) : RL K Cl Hb Z H (σ.set i (some v)) (ρ.set i (.dat d)) r x s :=
  ⟨B.si.yz h, B.ra.mv (Same.refl _) fun b hb => .inl (hb.imp id fun ⟨j, q⟩ => ⟨j, qy (s := .dat d) (fun z => nomatch z) q⟩), B.nz, by rw [List.getElem?_set_ne hi]; exact B.me, B.h0⟩
theorem vaQ.live (f : vaQ Cl H r x H' x') {b : Addr} (n : ¬ inR r x b) (e : H b ≠ none) : H' b ≠ none := f.s.live b (by unfold hide; rw [if_neg n]; exact e)
theorem vaQ.keep (f : vaQ Cl H r x H' x') {b : Addr} {o : HO} (n : ¬ inR r x b) (e : H b = some o) (t : ntb o = true) : H' b = some o := f.s.at (ze n e) t
theorem RL.kbh (S : RL K Cl Hb Z H σ ρ r x s) (f : vaQ Cl H r x H' x') : zd (hide H (Zo (ZR Z r x) σ ρ)) (hide H' (Zo (ZR Z r x') σ ρ)) := fun b o e t => by
  obtain ⟨n, e1⟩ := zi e
  refine ze (fun z => ?_) (f.keep (fun z => n (.inl (.inr z))) e1 t)
  rcases z with (z | z) | z
  · exact n (.inl (.inl z))
  · rcases f.new b z with z | z
    · exact n (.inl (.inr z))
    · rw [z] at e1
      cases e1
  · exact n (.inr z)
theorem RL.after (S : RL K Cl Hb Z H σ ρ r x s) (f : vaQ Cl H r x H' x') (ra' : RA K Cl H' (hide H' (Zo (ZR Z r x') σ ρ)) r x' s') : RL K Cl Hb Z H' σ ρ r x' s' := by
  have m := S.kbh f
  have noA : ∀ b, qk σ ρ b → ¬ inR r x b := fun b o z => S.si.di.out b o (.inr z)
  have wcd : ∀ b, qk σ ρ b → ¬ inR r x' b := fun b o z => by
    rcases f.new b z with z | z
    · exact noA b o z
    · exact S.si.di.yaI o z
  have h0' : ∀ b, inR r x' b → Hb b = none := fun b z => by
    rcases f.new b z with z | z
    · exact S.h0 b z
    · exact S.si.same.free z
  have nz' : ∀ b, inR r x' b → ¬ Z b := fun b z y => by
    rcases f.new b z with z | z
    · exact S.nz b z y
    · exact S.si.di.live b (.inl y) z
  have wbf : ∀ {b : Addr} {o : HO}, qk σ ρ b → H b = some o → ntb o = true → H' b = some o := fun {b o} ob e t => f.keep (noA b ob) e t
  refine ⟨⟨⟨S.si.di.len, S.si.di.one, fun b o z => ?_, fun b z => ?_, fun i t e => ?_, f.tb S.si.di.tb⟩, ?_, fun b o => S.si.new b o⟩, ra', nz', S.me, h0'⟩
  · rcases z with z | z
    · exact S.si.di.out b o (.inl z)
    · exact wcd b o z
  · rcases z with z | z
    · exact f.live (fun y => S.nz b y z) (S.si.di.live b (.inl z))
    · obtain ⟨u, e, _⟩ := ra'.at_ z
      rw [e]
      intro y
      cases y
  · have k := S.si.di.slots i t e
    cases t with
    | un => trivial
    | dat d =>
      obtain ⟨v, e1, h1⟩ := k
      exact ⟨v, e1, Dp.same m h1⟩
    | own ds =>
      obtain ⟨b, xs, e1, e2, h1⟩ := k
      exact ⟨b, xs, e1, wbf ⟨i, .inl ⟨e1, ds, e⟩⟩ e2 rfl, DpAll.same m h1⟩
    | err b dd j =>
      refine ⟨k.1, f.keep (fun z => ?_) k.2 rfl⟩
      obtain ⟨u, e3, k3⟩ := S.ra.at_ z
      have k2 := k.2
      rw [e3] at k2
      cases k2
      cases k3
    | ownT b k' gs =>
      obtain ⟨T, e1, h1⟩ := k
      exact ⟨T, e1, h1.same m fun ys z => wbf ⟨i, .inr (.inl ⟨k', gs, e⟩)⟩ z rfl⟩
    | pin b => exact k
    | ob k' fs => exact z6.same m k
    | yV b c =>
      obtain ⟨e1, u, e2, h1⟩ := k
      exact ⟨e1, u, wbf ⟨i, .inr (.inr ⟨c, e⟩)⟩ e2 h1.ntb, h1.same m⟩
  · refine ⟨fun b o e t => ?_, fun _ => f.tb S.si.di.tb, fun b e => ?_, fun b o xs e => ?_⟩
    · have n : ¬ inR r x b := fun z => by rw [S.h0 b z] at e; cases e
      exact f.keep n (S.si.same.d b o e t) t
    · exact f.live (fun y => e (S.h0 b y)) (S.si.same.live b e)
    · obtain ⟨n1, e1⟩ := zi (f.s.nf b o xs e)
      exact S.si.same.nf b o xs e1
theorem RL.based (S : RL K Cl Hb Z H σ ρ r x s) : Same Cl Hb (hide (ku H σ ρ) (inR r x)) ∧ RL K Cl (hide (ku H σ ρ) (inR r x)) Z H σ ρ r x s := by
  obtain ⟨b0, I2⟩ := S.si.based
  have wk : ∀ b, inR r x b → ∃ u, ku H σ ρ b = some u ∧ xaw u = true := fun b hb => by
    obtain ⟨u, e, k⟩ := S.ra.at_ hb
    exact ⟨u, qI (fun z => S.out z hb) e, k⟩
  refine ⟨b0.hidden S.h0 wk, ⟨I2.di, ⟨fun b o e t => I2.same.d b o (zi e).2 t, fun _ => I2.di.tb, fun b e => I2.same.live b fun z => e (by unfold hide; rw [z]; split <;> rfl), fun b o xs e => ze (fun z => ?_) (I2.same.nf b o xs e)⟩, fun b o => ?_⟩, S.ra, S.nz, S.me, fun b z => by unfold hide; rw [if_pos z]⟩
  · obtain ⟨u, e2, k⟩ := S.ra.at_ z
    rw [e] at e2
    cases e2
    cases k
  · unfold hide
    split
    · rfl
    · exact I2.new b o
theorem RL.rebase (S : RL K Cl Hc Z H σ ρ r x s) (sm : Same Cl Hb Hc) : RL K Cl Hb Z H σ ρ r x s := ⟨S.si.rebase sm, S.ra, S.nz, S.me, fun b z => sm.free (S.h0 b z)⟩
theorem RL.kept (S : RL K Cl (hide (ku H σ ρ) (inR r x)) Z H' σ' ρ' r x' s') : zd (hide H (Zo (ZR Z r x) σ ρ)) (hide H' (Zo (ZR Z r x') σ' ρ')) := fun b o e nt => by
  obtain ⟨n, e1⟩ := zi e
  have e2 : hide (ku H σ ρ) (inR r x) b = some o := ze (fun z => n (.inl (.inr z))) (qI (fun z => n (.inr z)) e1)
  refine ze (fun z => ?_) (S.si.same.d b o e2 nt)
  rcases z with (z | z) | z
  · exact n (.inl (.inl z))
  · rw [S.h0 b z] at e2
    cases e2
  · rw [S.si.new b z] at e2
    cases e2
theorem RL.write (S : RL K Cl Hb Z H σ ρ r x s) {i : Nat} {p : Addr} {xs : List V} {ds es : List DL.D} (hi0 : i ≠ 0) (hi : σ[i]? = some (some (.ref p))) (hr : ρ[i]? = some (.own es)) (h : DpAll K (hide H (Zo (ZR Z r x) σ ρ)) xs ds) : RL K Cl Hb Z (upd H p (.lst xs)) σ (ρ.set i (.own ds)) r x s := by
  have hil : i < ρ.length := (List.getElem?_eq_some_iff.mp hr).1
  have op : qk σ ρ p := ⟨i, .inl ⟨hi, es, hr⟩⟩
  have sub : ∀ b, Zo (ZR Z r x) σ (ρ.set i (.own ds)) b → Zo (ZR Z r x) σ ρ b := fun b hb => by
    rcases hb with hb | ⟨j, hb⟩
    · exact .inl hb
    · by_cases hj : i = j
      · subst hj
        rcases hb with ⟨h1, _⟩ | ⟨k, d, h2⟩ | ⟨c, h2⟩
        · exact .inr ⟨i, .inl ⟨h1, es, hr⟩⟩
        · rw [List.getElem?_set, if_pos rfl, if_pos hil] at h2
          cases h2
        · rw [List.getElem?_set, if_pos rfl, if_pos hil] at h2
          cases h2
      · unfold qo at hb
        rw [List.getElem?_set_ne hj] at hb
        exact .inr ⟨j, hb⟩
  refine ⟨S.si.write hi hr h, S.ra.same (fun b hb => upd_ne fun z => S.out op (by rw [← z]; exact hb)) fun b o e t => ?_, S.nz, by rw [List.getElem?_set_ne hi0]; exact S.me, S.h0⟩
  obtain ⟨n, e1⟩ := zi e
  exact ze (fun z => n (sub b z)) (by rw [upd_ne fun z => n (by rw [z]; exact .inr op)]; exact e1)
theorem RL.zeq (r : Addr) (x : v5) (Z : Addr → Prop) (σ : St) (ρ : jc) : ZR (Zo Z σ ρ) r x = Zo (ZR Z r x) σ ρ := funext fun b => propext ⟨fun h => by
  rcases h with (h | h) | h
  · exact .inl (.inl h)
  · exact .inr h
  · exact .inl (.inr h), fun h => by
  rcases h with (h | h) | h
  · exact .inl (.inl h)
  · exact .inr h
  · exact .inl (.inr h)⟩
end
section
variable {X : Cx} {Cl : Nat → Addr} {W : WX} {H Hb : Hp} {r : Addr} {x : v5} {s s' : RS} {Z : Addr → Prop} {σ : St} {ρ ρ' : jc} {Q : VK} {E : St → XK}
end
section
variable {X : Cx} {Cl : Nat → Addr} {W : WX} {H Hb : Hp} {r : Addr} {x : v5} {s s' : RS} {Z : Addr → Prop} {σ : St} {ρ ρ' : jc} {E : St → XK} {D : Ends}
end
def RS.of (s : RS) : List OF := [.sub 3000 s.ws.of, .dat (.list s.found), .dic s.cont, .dat (.list [])]
def rs0 : RS := ⟨ws0, [], []⟩
structure kdT (Cl : Nat → Addr) (H H' : Hp) (r dx : Addr) (x : v5) : Prop where
  edx : x.dx = dx
  ra : ∀ (K : PySem.W.Frag) (Y : Addr → Prop), (∀ b, Y b → H b ≠ none ∨ inR r x b) → RA K Cl H' (hide H' Y) r x rs0
  new : ∀ b, inR r x b → b = r ∨ b = dx ∨ H b = none
  keep : ∀ b o, H b = some o → b ≠ r → H' b = some o
  nf : ∀ b o xs, H' b = some (.frz o (.lst xs)) → H b = some (.frz o (.lst xs))
section
variable {K : PySem.W.Frag} {Cl : Nat → Addr} {vs : List V} {H : Hp} {Q : VK} {E : XK} {E' : XK}
end
theorem ybF.down {K : PySem.W.Frag} {Cl : Nat → Addr} {Hs : Hp} {v : V} {x : OF} (h : ybF K Cl Hs v x) (n : ∀ k fs, x ≠ .sub k fs) : waz K Hs v x := by
  cases x with
  | dat d => exact h
  | dic ps => exact h
  | sub k fs => exact absurd rfl (n k fs)
theorem WS.plain {s : WS} {j : Nat} {x : OF} (h : s.of[j]? = some x) : ∀ k fs, x ≠ .sub k fs := by
  have m := List.mem_of_getElem? h
  unfold WS.of at m
  intro k fs e
  subst e
  simp at m
section
variable {K : PySem.W.Frag} {Cl : Nat → Addr} {W : WX} {H H' Hs Hs' : Hp} {r : Addr} {x : v5} {s : RS}
theorem RA.ob (h : RA K Cl H Hs r x s) (e : ∀ b, inR r x b → Hs' b = H b) (m : zd Hs Hs') : qbo K Cl Hs' r 3001 s.of := by
  obtain ⟨dw, vs, w1, w2, w3, w4⟩ := h.wa.ob (Hs' := Hs') (fun b hb => e b (.inr hb)) m
  obtain ⟨xs, f1, f2⟩ := h.f
  obtain ⟨kvs, c1, c2⟩ := h.c
  refine ⟨x.dx, zbG x, by rw [e r (.inl (.inl rfl))]; exact h.o, rfl, rfl, fun j y hy => ?_⟩
  match j, hy with
  | 0, hy =>
    cases hy
    exact ⟨_, rfl, x.a, dw, vs, rfl, w1, w2, w3, fun j2 y2 h2 => (w4 j2 y2 h2).imp fun u q => ⟨q.1, q.2.down (WS.plain h2)⟩⟩
  | 1, hy =>
    cases hy
    exact ⟨_, rfl, .lst (Rd.of (by rw [e x.f (.inl (.inr (.inr (.inl rfl))))]; exact f1)) (DpAll.same m f2)⟩
  | 2, hy =>
    cases hy
    exact ⟨_, rfl, x.c, kvs, rfl, by rw [e x.c (.inl (.inr (.inr (.inr (.inl rfl)))))]; exact c1, c2.same m⟩
  | 3, hy =>
    cases hy
    exact ⟨_, rfl, .lst (Rd.of (by rw [e x.k (.inl (.inr (.inr (.inr (.inr rfl)))))]; exact h.k)) .nil⟩
  | j + 4, hy => cases hy
end
section
variable {X : Cx} {Cl : Nat → Addr} {W : WX} {f g : Str} {e o : Expr} {pos apos cpos p1 : Pos}
end
section
variable {X : Cx} {Cl : Nat → Addr} {W : WX} {E1 : XK} {E2 E3 : St → XK} {F2 : RF} {F3 : MF} {g : FA} {e1 e2 e3 : Expr} {z1 : Str} {p1 p2 p3 p4 : Pos}
end
section
variable {K : PySem.W.Frag} {Cl : Nat → Addr} {W : WX} {H0 : Hp} {Z Z1 : Addr → Prop} {D : Ends}
theorem OOk.more {o : Out} (h : ∀ a, Z a → Z1 a) (q : OOk K Cl W H0 Z D o) : OOk K Cl W H0 Z1 D o := by
  cases o with
  | nx ρ => exact fun σ H I => q σ H (I.less h)
  | brk ρ => exact fun σ H I => q σ H (I.less h)
  | ct ρ => exact fun σ H I => q σ H (I.less h)
  | ret d => exact fun v H s hd => q v H s (Dp.same (vd (zd.refl _) fun b hb => .inl (h b hb)) hd)
  | retF ds => exact fun p xs H s n hp hd => q p xs H s n hp (DpAll.same (vd (zd.refl _) fun b hb => .inl (hb.imp (h b) id)) hd)
  | retX ds k => exact fun T p xs ys H s h1 h2 h3 h4 h5 => q T p xs ys H s (SqT.same (vd (zd.refl _) fun b hb => .inl (h b hb)) h1) (DpAll.same (vd (zd.refl _) fun b hb => .inl (h b hb)) h2) h3 h4 h5
  | exc ρ c i => exact fun dd σ H I hd => q dd σ H (I.less h) hd
end
section
variable {X : Cx} {Cl : Nat → Addr} {W : WX} {e : Expr} {es : List Expr} {g : FA} {t1 : FT} {rest : FS}
end
section
variable {K : PySem.W.Frag} {Cl : Nat → Addr} {W : WX} {Z : Addr → Prop} {H : Hp} {σ : St} {ρ : jc}
theorem DI.jbf (I : DI K Cl Z H σ ρ) {q : Addr} {ys zs : List V} (hz : Z q) (hq : H q = some (.lst ys)) : DI K Cl Z (upd H q (.lst zs)) σ ρ := by
  have hm : zd (hide H (Zo Z σ ρ)) (hide (upd H q (.lst zs)) (Zo Z σ ρ)) := zaJ (.inl hz)
  have no : ∀ a, qk σ ρ a → a ≠ q := fun a o z => I.out a o (by rw [z]; exact hz)
  refine ⟨I.len, I.one, I.out, fun a z => ?_, fun i t e => ?_, I.tb.over hq⟩
  · by_cases e : a = q
    · rw [e, upd_same]
      intro z; cases z
    · rw [upd_ne e]
      exact I.live a z
  · have k := I.slots i t e
    cases t with
    | un => trivial
    | dat d =>
      obtain ⟨v, e1, h1⟩ := k
      exact ⟨v, e1, Dp.same hm h1⟩
    | own ds =>
      obtain ⟨a, xs, e1, e2, h1⟩ := k
      exact ⟨a, xs, e1, by rw [upd_ne (no a ⟨i, .inl ⟨e1, ds, e⟩⟩)]; exact e2, DpAll.same hm h1⟩
    | err a dd j =>
      have nd : dd ≠ q := fun z => by
        have k2 := k.2
        rw [z, hq] at k2
        cases k2
      exact ⟨k.1, by rw [upd_ne nd]; exact k.2⟩
    | ownT a k' gs =>
      obtain ⟨T, e1, h1⟩ := k
      exact ⟨T, e1, h1.same hm fun _ z => by rw [upd_ne (no a ⟨i, .inr (.inl ⟨k', gs, e⟩)⟩)]; exact z⟩
    | pin a => exact k
    | ob k fs => exact z6.same hm k
    | yV a c =>
      obtain ⟨e1, u, e2, h1⟩ := k
      exact ⟨e1, u, by rw [upd_ne (no a ⟨i, .inr (.inr ⟨c, e⟩)⟩)]; exact e2, h1.same hm⟩
end
section
variable {X : Cx} {Cl : Nat → Addr} {W : WX} {elt tg iter tg1 iter1 : Expr} {ifs ifs1 : List Expr} {scope : Scope} {own : List (Str × Nat)} {pos : Pos} {it it1 : FI} {g g1 : TG} {tt tt1 : FT} {fe : FE} {vs vs1 : List Nat} {st wF : jc → D → Option jc}
end
def qdi : List Int → Int
  | [] => 0
  | n :: ns => ns.foldl min n
@[simp] def xdR : List Val → Option Val
  | [v] => match v.d with
    | .list ds => match vad ds with
      | some ns => if ns.length = 0 then none else some (.s (.int (qdi ns)))
      | none => none
    | _ => none
  | _ => none
section
variable {X : Cx} {Cl : Nat → Addr} {W : WX} {K : PySem.W.Frag} {e : Expr} {f : FE}
end
section
variable {X : Cx} {Cl : Nat → Addr} {W : WX} {K : PySem.W.Frag}
end
theorem xcr {σ : St} {ρ : jc} (h : noOwn ρ (List.range ρ.length) = true) (b : Addr) : ¬ qk σ ρ b := fun ⟨k, o⟩ => by
  obtain ⟨s, e1, e2⟩ := o.slot
  have hk := (List.getElem?_eq_some_iff.mp e1).1
  have q := (List.all_eq_true.mp (show (List.range ρ.length).all _ = true from h)) k (List.mem_range.mpr hk)
  rw [e1] at q
  cases s with
  | own ds => cases q
  | ownT a k' ds => cases q
  | yV a c => cases q
  | _ => exact e2
structure kcd (K : PySem.W.Frag) (H Hh : Hp) (R : Addr) (qs : List Addr) (dss : List (List D)) : Prop where
  r : H R = some (.lst (qs.map V.ref))
  l : qs.length = dss.length
  q : ∀ (k : Nat) a, qs[k]? = some a → ∃ ys row, H a = some (.lst ys) ∧ dss[k]? = some row ∧ DpAll K Hh ys row
section
variable {K : PySem.W.Frag} {Cl : Nat → Addr}
theorem kcd.same {H H' Hh Hh' : Hp} {R : Addr} {qs : List Addr} {dss : List (List D)} (h : kcd K H Hh R qs dss) (s : Same Cl H H') (m : zd Hh Hh') : kcd K H' Hh' R qs dss := ⟨s.at h.r, h.l, fun k a e => by
  obtain ⟨ys, row, h1, h2, h3⟩ := h.q k a e
  exact ⟨ys, row, s.at h1, h2, DpAll.same m h3⟩⟩
end
section
variable {X : Cx} {Cl : Nat → Addr} {W : WX} {elt tg0 iter0 tg iter c1 ke kk2 ae ixe e1 e2 e4 : Expr} {s1 : Stmt} {it0 it : FI} {g0 : TG} {st0 : jc → D → Option jc} {vs : List Nat} {fe : FE} {g : FG} {f1 : FS} {t1 : FT} {fk fk2 fl ix ea eb ec : FE} {F : FC}
end
section
variable {P : Program} {w : World} {K : PySem.W.Frag} {mg : Str → Option Value} {base : Heap} {N : List Str} {q : Str} {sc : Scope} {fa : Addr} {cdv : Value} {A : Around} {outer : List Env} {s : Shared} {H : Hp} {E : XK} {Cl : Nat → Addr} {b : List Stmt}
theorem wO {f : FS} (h : Takes (cxOf (L2.CX P w) P w K mg base N q sc fa cdv A outer s H E) (fun cls d _ H' => E cls d H') → PassesOwn (model P w) (cxOf (L2.CX P w) P w K mg base N q sc fa cdv A outer s H E).A (cxOf (L2.CX P w) P w K mg base N q sc fa cdv A outer s H E).env (cxOf (L2.CX P w) P w K mg base N q sc fa cdv A outer s H E).xe → DSs (cxOf (L2.CX P w) P w K mg base N q sc fa cdv A outer s H E) Cl (fun cls d _ H' => E cls d H') b f) : DSs (cxOf (L2.CX P w) P w K mg base N q sc fa cdv A outer s H E) Cl (fun cls d _ H' => E cls d H') b f := h (takes_of rfl rfl rfl rfl) PassesOwn.leaving
theorem tkP {t : TS} (h : Takes (cxOf (L2.CX P w) P w K mg base N q sc fa cdv A outer s H E) (fun cls d _ H' => E cls d H') → PassesOwn (model P w) (cxOf (L2.CX P w) P w K mg base N q sc fa cdv A outer s H E).A (cxOf (L2.CX P w) P w K mg base N q sc fa cdv A outer s H E).env (cxOf (L2.CX P w) P w K mg base N q sc fa cdv A outer s H E).xe → PSs (cxOf (L2.CX P w) P w K mg base N q sc fa cdv A outer s H E) b t) : PSs (cxOf (L2.CX P w) P w K mg base N q sc fa cdv A outer s H E) b t := h (takes_of rfl rfl rfl rfl) PassesOwn.leaving
end
section
variable {prog : Program} {w : World} {A : Around} {E : Value → Shared → Prop} {s : Shared}
end
section
variable {prog : Program} {w : World} {A : Around} {E : Value → Shared → Prop} {s : Shared}
end
def qc2 (ds es : List D) : List D := wN (ka2 ds es)
section
variable {X : Cx} {Cl : Nat → Addr} {W : WX} {p p2 pos pos2 : Pos} {g : FA}
@[simp] def qdF (g : FA) (ρ : jc) : Option (Except Er (List D)) := match g ρ with
  | none => none
  | some (.error e) => some (.error e)
  | some (.ok vs) => match vs with
    | [v, u] => match wba v, wba u with
      | some ds, some es => some (.ok (qc2 ds es))
      | _, _ => none
    | _ => none
end
section
variable {X : Cx} {Cl : Nat → Addr} {W : WX} {elt tg0 iter0 tg iter c1 ixe ae : Expr} {it0 it : FI} {g0 : TG} {st0 : jc → D → Option jc} {vs : List Nat} {fe : FE} {g : FG} {t1 : FT} {ix fa : FE}
end
structure wbi (K : PySem.W.Frag) (k : Nat) (H H' Hh : Hp) (p q : Addr) (x : V) (d : D) : Prop where
  go : ∃ (T0 T : Addr) (u v : V) (a b : D) (ys : List V) (ds : List D) (zs : List V) (ws : List D), x = V.ref T0 ∧ d = .tuple [a, b, .tuple ds] ∧ SqT K Hh T0 [u, v, .ref T] ∧ Dp K Hh u a ∧ Dp K Hh v b ∧ SqT K Hh T ys ∧ DpAll K Hh ys ds ∧ ys[k]? = some (V.ref q) ∧ ds[k]? = some (.list ws) ∧ H' q = some (.lst zs) ∧ DpAll K Hh zs ws
  ne : q ≠ p
  new : H q = none
def kcr (K : PySem.W.Frag) (k : Nat) (H H' Hh : Hp) (p : Addr) (xs : List V) (es : List D) : Prop := ∃ qs : List Addr, qs.length = xs.length ∧ qs.Nodup ∧ ∀ (i : Nat) x d q, xs[i]? = some x → es[i]? = some d → qs[i]? = some q → wbi K k H H' Hh p q x d
def spF (K : PySem.W.Frag) (Cl : Nat → Addr) (k n : Nat) (F : TF) : Sp := fun vs H Q E => ∃ Z ds es, ybo Cl Z H ∧ DpAll K (hide H Z) vs ds ∧ ds.length = n ∧ F ds = some es ∧
  ∀ p xs H', Same Cl H H' → H p = none → H' p = some (.lst xs) → DpAll K (hide H' (ZP Z p)) xs es → kcr K k H H' (hide H' (ZP Z p)) p xs es → Q (.ref p) H'
theorem zc2 {K : PySem.W.Frag} {Cl : Nat → Addr} {k n : Nat} {F : TF} {vs : List V} {H : Hp} {Q : VK} {E : XK} (h : qE K Cl n (tfD F) vs H Q E) : spF K Cl k n F vs H Q E := by
  obtain ⟨Z, ds, o, h1, h2, h3, h4, h5⟩ := h
  unfold tfD at h4
  cases e : F ds with
  | none => rw [e] at h4; cases h4
  | some es =>
    rw [e] at h4
    cases h4
    exact ⟨Z, ds, es, h1, h2, h3, e, fun p xs H' a b c d _ => h5 p xs H' a b c d⟩
def teF (K : PySem.W.Frag) (Cl : Nat → Addr) (k : Nat) (f : jc → Option (List D)) : TE := fun σ H Q => ∃ Z ρ es, SI K Cl H Z H σ ρ ∧ f ρ = some es ∧
  ∀ p xs H', Same Cl H H' → H p = none → H' p = some (.lst xs) → DpAll K (hide H' (ZP Z p)) xs es → kcr K k H H' (hide H' (ZP Z p)) p xs es → Q (.ref p) H'
section
variable {K : PySem.W.Frag} {Cl : Nat → Addr}
theorem ycU {P : Program} {w : World} {mg : Str → Option Value} {base : Heap} {x qual : Str} {st : Stmt} {fa : Addr} {fd : FuncData} {N ps : List Str} {k n m kx : Nat} {fb : jc → Option (List D)} (F : Fun K x qual st fa fd) (S : FnScope N ps (defScope st)) (hn : ps.length = n) (hm : N.length = m)
    (h : ∀ (cdv : Value) (A : Around) (outer : List Env) (s : Shared) (H : Hp) (E : XK), Room k (A.deeper (envOfC qual (defScope st) s.heap.objs.size fa cdv)) →
      PSs (cxOf (L2.CX P w) P w K mg base N qual (defScope st) fa cdv A outer s H E) (defBody st) (fun D σ H => teF K Cl kx fb σ H D.rt)) : FnOk P w K mg base (L2.CX P w) (k + 1) fa fd ps (spF K Cl kx n (mkT n m fb)) := by
  refine F.okX S (fun vs H Q E ⟨Z, ds, o, _, h1, h2, _⟩ => by rw [h1.length, h2, hn]) (fun cdv A outer s H vs Q E hr hsp => ⟨_, h cdv A outer s H E hr, ?_⟩)
  obtain ⟨Z, ds, es, live, h1, h2, e, q⟩ := hsp
  unfold mkT at e
  have hst : L2.start N vs = vs.map some ++ List.replicate (m - n) none := by
    unfold L2.start
    rw [hm, h1.length, h2]
  rw [hst]
  exact ⟨Z, _, es, SI.start (m := m - n) live h1, e, q⟩
theorem wbi.to {k : Nat} {H0 H1 H2 Hh1 Hh2 : Hp} {p q : Addr} {x : V} {d : DL.D} (t : wbi K k H0 H1 Hh1 p q x d) (m : zd Hh1 Hh2) (h : ∀ zs, H1 q = some (.lst zs) → H2 q = some (.lst zs)) : wbi K k H0 H2 Hh2 p q x d := by
  obtain ⟨⟨T0, T, u, v, a, b, ys, ds, zs, ws, e1, e2, h1, h2, h3, h4, h5, h6, h7, h8, h9⟩, ne, nw⟩ := t
  exact ⟨⟨T0, T, u, v, a, b, ys, ds, zs, ws, e1, e2, SqT.same m h1, Dp.same m h2, Dp.same m h3, SqT.same m h4, DpAll.same m h5, h6, h7, h _ h8, DpAll.same m h9⟩, ne, nw⟩
end
def qcB (K : PySem.W.Frag) (k : Nat) (H H' Hh : Hp) (R : Addr) (xs : List V) (acc : List D) (qs : List Addr) : Prop := qs.length = xs.length ∧ qs.Nodup ∧ (∀ q ∈ qs, H' q ≠ none) ∧ ∀ (j : Nat) x d q, xs[j]? = some x → acc[j]? = some d → qs[j]? = some q → wbi K k H H' Hh R q x d
def jc2 (K : PySem.W.Frag) (Cl : Nat → Addr) (U : Hp) (Zh : Addr → Prop) (R : Addr) (i n k : Nat) (H : Hp) (es : List D) (L : jc → List D → Option (List D)) (σ' : St) (H' : Hp) : Prop := ∃ (ρ' : jc) (xs : List V) (acc : List D) (qs : List Addr), SI K Cl U Zh H' σ' ρ' ∧ ρ'[i]? = some (.pin R) ∧ ρ'.length = n ∧ H' R = some (.lst xs) ∧ DpAll K (hide H' Zh) xs acc ∧ qcB K k H H' (hide H' Zh) R xs acc qs ∧ L ρ' acc = some es
open Classical in
noncomputable def qce (k i il i1 i2 : Nat) (g : FG) (ga : FA) (F : DF) (h : HF) (d : D) (ρ : jc) (acc : List D) : Option (jc × List D) :=
  (g d ρ).bind fun ρ0 => if (ρ0[i]? = ρ[i]? ∧ ρ0.length = ρ.length) ∧ noOwn ρ0 (List.range ρ0.length) = true then match ga ρ0 with
    | some (.ok [.f ws]) => if ws.all vj = true then match F [.list ws] with
      | some (.ret (.tuple ls)) => match ls[k]?, ρ0[i1]?, ρ0[i2]? with
        | some (.list zs), some (.dat a), some (.dat b) => if zs.length < ws.length ∧ yo (acc.length + 1) = true then some (ρ0.set il .un, acc ++ [.tuple [a, b, .tuple ls]]) else none
        | _, _, _ => none
      | some (.exc c j) => if h c j ρ0 = some (.ct ρ0) then some (ρ0, acc) else none
      | _ => none else none
    | some (.error er) => if h er.1 er.2 ρ0 = some (.ct ρ0) then some (ρ0, acc) else none
    | _ => none else none
noncomputable def waK (k i il i1 i2 : Nat) (g : FG) (ga : FA) (F : DF) (h : HF) : List D → jc → List D → Option (List D)
  | [], _, acc => some acc
  | d :: r, ρ, acc => (qce k i il i1 i2 g ga F h d ρ acc).bind fun x => waK k i il i1 i2 g ga F h r x.1 x.2
noncomputable def ybJ (k i il i1 i2 : Nat) (f0 : FE) (it : FI) (g : FG) (ga : FA) (F : DF) (h : HF) : jc → Option (List D) := fun ρ => if (decide (i < ρ.length) && (decide (il < ρ.length) && (decide (i ≠ il) && (decide (i1 ≠ il) && (decide (i2 ≠ il) && decide (i < ρ.length)))))) = true then match f0 ρ with
  | some (.ok (.f [])) => pinned i (fun ρ' => match it ρ' with
    | some (.ok ds) => waK k i il i1 i2 g ga F h ds ρ' []
    | _ => none) ρ
  | _ => none else none
section
variable {X : Cx} {Cl : Nat → Addr} {tg iter e0 ae : Expr} {it : FI} {g : FG} {f0 : FE} {ga : FA} {F : DF} {hf0 : HF}
theorem wc2 {lv i il i1 i2 kx : Nat} {fa : Addr} {fd : FuncData} {ps : List Str} {x y z : Str} {p1 p3 p8 p9 p10 p11 p12 p13 p14 p15 p16 : Pos} {app : Expr} {hd0 : ExceptHandler} {hds : List ExceptHandler} {W : WX}
    (hc : X.calm = true) (hN : X.N.Nodup) (hpo : PassesOwn (model X.prog X.w) X.A X.env X.xe) (hstk : X.stack = X.env :: X.outer) (hfr : X.env.frame = some X.env.locals)
    (G : FnOk X.prog X.w X.K X.mg X.base (L2.CX X.prog X.w) lv fa fd ps (qE X.K Cl 1 F)) (hr : Room lv X.A) (hm : X.mg x = some (.ref fa)) (hk : PySem.W.keepIn X.K (.ref fa) = true) (hb : Binds X.K fd ps [])
    (h0 : DE X Cl W e0 f0) (hit : DIt X Cl W tg iter it) (hg : DG X Cl tg g) (ha : ∀ (W' : WX) (pn : List (Addr × Obj)) (xe : Value → Shared → Prop), Takes (X.tr pn xe) W' → DA (X.tr pn xe) Cl W' [ae] ga)
    (hh : DHs X Cl W (hd0 :: hds) hf0)
    (hvi : ∀ p, PE X (.Name y p) (tVar i))
    (happ : PE X app (tBM X.K "list" rAppend (tVar i) (tCons (tTup (tCons (vM X.K Cl W (eV i1)) (tCons (vM X.K Cl W (eV i2)) (tCons (tVar il) tNil)))) tNil)))
    (hi : X.N[i]? = some y := by rfl) (hx : Loc X.env.scope y := by first | exact .inl rfl | exact .inr rfl) (hf : X.fn y = true ∨ X.env.scope.names.lookup y = some .local := by first | exact .inl rfl | exact .inr rfl)
    (hil : X.N[il]? = some z := by rfl) (hxl : Loc X.env.scope z := by first | exact .inl rfl | exact .inr rfl) (hfl : ∀ (pn : List (Addr × Obj)) (xe : Value → Shared → Prop), (X.tr pn xe).fn z = true ∨ X.env.scope.names.lookup z = some .local := by first | exact fun _ _ => .inl rfl | exact fun _ _ => .inr rfl)
    (hgl : Gl X x := by rfl) (hdb : (x == ("__debug__" : Str)) = false := by decide) (he : starEach [ae] X.env = (false, eval ae X.env) :: starEach [] X.env := by rfl) (hpl : (backTo p10 (starEach [] X.env)).any (·.1) = false := by rfl)
    (hs0 : swapsWith e0 (some (.Name y p1)) p3.line X.env = pure false := by rfl) (hs1 : swapsWith (.Call (.Name x p9) [ae] [] p10) (some (.Name z p8)) p11.line X.env = pure false := by rfl) (hs4 : swapsWith app none p14.line X.env = pure false := by rfl) (hsi : ∀ x, foldedSetIterable iter X.env x = pure x := by intro _; rfl) :
    PSs X [.Assign [.Name y p1] e0 p3, .For tg iter [.Try [.Assign [.Name z p8] (.Call (.Name x p9) [ae] [] p10) p11] (hd0 :: hds) [] [] p12, .Expr app p14] [] p13, .Return (some (.Name y p15)) p16]
      (fun D σ H => teF X.K Cl kx (ybJ kx i il i1 i2 f0 it g ga F hf0) σ H D.rt) := by
  obtain ⟨wish, hcl, hok⟩ := hh
  refine PSs.imp (pss_cons (ps_set hN hi hx h0 hs0 hf) (pss_cons (ps_for hpo hc hit hg (pss_cons (jcq (tb := fun W' => tAsg (tCallS (qE X.K Cl 1 F) (WE W') (kcc X.K Cl W' ga)) (gName il)) hstk hfr (fun W' pn xe tk hpo' => pss_one (ps_set (X := X.tr pn xe) hN hil hxl (pe_callS (X := X.tr pn xe) (E := WE W') G hr hgl hm hk hb (fun σ => passAt tk σ) (ha W' pn xe tk) hdb he hpl) hs1 (hfl pn xe))) hcl) (pss_cons (ps_expr happ hs4) pss_nil)) hsi)
    (pss_cons (ps_ret (hvi p15)) pss_nil))) fun D σ H ⟨Z, ρ, es, I, e, q⟩ => ?_
  unfold ybJ at e
  split at e
  · rename_i hcond
    simp only [Bool.and_eq_true, decide_eq_true_eq] at hcond
    obtain ⟨hilt, hill, hin, hi1, hi2, _⟩ := hcond
    split at e
    · rename_i ef0
      have noOw : ∀ b, ¬ qk σ ρ b := fun b o => I.di.yaI o (I.new b o)
      unfold tSeq tAsg gName
      refine qK I.di ef0 (fun er z => nomatch z) fun v x0 Hr ev sR hv _ => ?_
      cases ev
      obtain ⟨R, xs0, rfl, nR, hR, hR0⟩ := hv
      cases hR0
      let S : Addr → Prop := fun b => b = R
      have Sn : ∀ b, S b → H b = none := fun b hb => by
        rw [show b = R from hb]
        exact nR
      have I1 := I.hid sR (S := S) Sn (fun b hb => by
        rw [show b = R from hb, hR]
        intro z; cases z)
      let Zh : Addr → Prop := fun b => Z b ∨ S b
      have I2 : SI X.K Cl H Zh Hr (σ.set i (some (.ref R))) (ρ.set i (.pin R)) := ⟨I1.di.wcA (fun z => nomatch z) fun _ _ => rfl, I1.same, fun b ⟨k, z⟩ => I1.new b ⟨k, qy (s := .pin R) (fun z => nomatch z) z⟩⟩
      have noOw2 : ∀ b, ¬ qk (σ.set i (some (.ref R))) (ρ.set i (.pin R)) b := fun b ⟨k, z⟩ => noOw b ⟨k, qy (s := .pin R) (fun z => nomatch z) z⟩
      have er := kbY e R
      have hpi : (ρ.set i (.pin R))[i]? = some (.pin R) := by rw [List.getElem?_set, if_pos rfl, if_pos hilt]
      have hpl2 : (ρ.set i (.pin R)).length = ρ.length := by rw [List.length_set]
      generalize hσ2 : σ.set i (some (.ref R)) = σ2 at *
      generalize hρ2 : ρ.set i (.pin R) = ρ2 at *
      cases eit : it ρ2 with
      | none => rw [eit] at er; cases er
      | some rit =>
        cases rit with
        | error _ => rw [eit] at er; cases er
        | ok ds =>
          rw [eit] at er
          dsimp only at er
          refine ⟨Zh, ρ2, .ok ds, I2.di, eit, ?_⟩
          intro J H2 s1 hJ
          have I3 := I2.zu s1
          have hR2 := s1.at hR
          have Sk : ∀ b, S b → ∃ u, H2 b = some u ∧ xaw u = true := fun b hb => by
            rw [show b = R from hb]
            exact ⟨_, hR2, rfl⟩
          let U : Hp := hide H2 S
          have sHU : Same Cl H U := Same.hidden (sR.trans s1) Sn Sk
          have sU2 : Same Cl U H2 := .of (fun b o h => (zi h).2) fun b o xs h => ze (fun z => by
            obtain ⟨u, e3, k3⟩ := Sk b z
            rw [h] at e3
            cases e3
            cases k3) h
          have Us : ∀ b, S b → U b = none := fun b hb => by
            show hide H2 S b = none
            unfold hide
            rw [if_pos hb]
          have I4 : SI X.K Cl U Zh H2 σ2 ρ2 := ⟨I3.di, sU2, fun b o => absurd o (noOw2 b)⟩
          have kept : ∀ {H' : Hp} {σ' : St} {ρ' : jc}, SI X.K Cl U Zh H' σ' ρ' → zd (hide H2 (Zo Zh σ2 ρ2)) (hide H' (Zo Zh σ' ρ')) := fun {H' σ' ρ'} I' b o h nt => by
            obtain ⟨n, h1⟩ := zi h
            have hU : U b = some o := ze (fun z => n (.inl (.inr z))) h1
            refine ze (fun z => z.elim (fun z => n (.inl z)) fun z => ?_) (I'.same.d b o hU nt)
            rw [I'.new b z] at hU
            cases hU
          have slotI : ∀ {H' : Hp} {σ' : St} {ρ' : jc}, SI X.K Cl U Zh H' σ' ρ' → ρ'[i]? = some (.pin R) → σ'[i]? = some (some (.ref R)) := fun {H' σ' ρ'} I' h => I'.di.slots i _ h
          refine ⟨fun t m σ' H' => ∃ ρ' xs acc qs, SI X.K Cl U Zh H' σ' ρ' ∧ ρ'[i]? = some (.pin R) ∧ ρ'.length = ρ.length ∧ H' R = some (.lst xs) ∧ DpAll X.K (hide H' Zh) xs acc ∧ qcB X.K kx H H' (hide H' Zh) R xs acc qs ∧ waK kx i il i1 i2 g ga F hf0 (ds.drop t) ρ' acc = some es ∧ m = ds.length - t ∧ t ≤ ds.length,
            ⟨_, _, [], [], [], I4, hpi, hpl2, hR2, .nil, ⟨rfl, .nil, fun _ h => (nomatch h), fun j x d q h => by simp at h⟩, er, rfl, Nat.zero_le _⟩, fun t m σ' H' => ?_⟩
          rintro ⟨ρ', xs, acc, qs, I', hqi, hql, hRx, hdx, ⟨ql, qnd, qlv, qf⟩, e', rfl, htl⟩
          obtain ⟨go, stop, yld⟩ := hJ (Zo Zh σ' ρ') H' (kept I') (fun b z => I'.di.jZ z)
          by_cases hlt : t < ds.length
          · refine .inr ⟨go t hlt, fun σ3 H3 => jc2 X.K Cl U Zh R i ρ.length kx H es (fun ρ' acc => waK kx i il i1 i2 g ga F hf0 (ds.drop (t + 1)) ρ' acc) σ3 H3,
              fun σ3 H3 ⟨ρ3, d1, d2, d3, b1, b2, b3, b4, b5, b6, b7⟩ => ⟨ds.length - (t + 1), by omega, ρ3, d1, d2, d3, b1, b2, b3, b4, b5, b6, b7, rfl, hlt⟩, fun x0 H'' y0 => ?_⟩
            have hd : ds[t]? = some ds[t] := List.getElem?_eq_getElem hlt
            obtain ⟨s2', hx0⟩ := yld t x0 H'' _ y0 hd
            have s2 := s2' Cl
            rw [List.drop_eq_getElem_cons hlt] at e'
            unfold waK at e'
            obtain ⟨r3, eT, e'⟩ := Option.bind_eq_some_iff.mp e'
            unfold qce at eT
            obtain ⟨ρ0, eg, eT⟩ := Option.bind_eq_some_iff.mp eT
            split at eT
            · rename_i hpin1
              obtain ⟨⟨hp1', hp3⟩, hno0⟩ := hpin1
              rw [hqi] at hp1'
              rw [hql] at hp3
              refine ⟨U, _, ρ', ds[t], ρ0, I'.zu s2, hx0, eg, fun σ3 I3b => ?_⟩
              have noO1 : ∀ b, ¬ qk σ3 ρ0 b := xcr hno0
              have ofZo : ∀ {H5 : Hp}, zd (hide H5 (Zo Zh σ3 ρ0)) (hide H5 Zh) := fun {H5} => vd (zd.refl _) fun b hb => .inl (.inl hb)
              have up : ∀ {H5 : Hp}, Same Cl H' H5 → zd (hide H' Zh) (hide H5 Zh) := fun {H5} s => xl s fun _ h => .inl h
              have keepQ : ∀ {H5 : Hp}, Same Cl H' H5 → qcB X.K kx H H5 (hide H5 Zh) R xs acc qs := fun {H5} s => ⟨ql, qnd, fun q hq => s.live q (qlv q hq), fun j x d q h1 h2 h3 => (qf j x d q h1 h2 h3).to (up s) fun _ z => s.at z⟩
              -- an error: on with the next
              have onErr : ∀ (c : Nat) (j : Int), hf0 c j ρ0 = some (.ct ρ0) → r3 = (ρ0, acc) → ∀ (dd : Addr) (H5 : Hp) (D' : Ends), Same Cl H'' H5 → H5 dd = some (.xd [(("at" : Str), .int j)]) → (D'.ct = fun σ3 H3 => jc2 X.K Cl U Zh R i ρ.length kx H es (fun ρ' acc => waK kx i il i1 i2 g ga F hf0 (ds.drop (t + 1)) ρ' acc) σ3 H3) → wish D' (.ref (Cl c)) (some dd) σ3 H5 := fun c j hj hr3 dd H5 D' s5 hd5 hD => by
                have Ib : SI X.K Cl H5 Zh H5 σ3 ρ0 := ⟨(I3b.zu s5).di, Same.refl _, fun b o => absurd o (noO1 b)⟩
                refine hok D' H5 Zh (.ct ρ0) c j ρ0 σ3 H5 dd hj Ib hd5 fun σ6 H6 I6 => ?_
                have s6 := (s2.trans s5).trans I6.same
                have e7 := e'
                rw [hr3] at e7
                rw [hD]
                exact ⟨ρ0, xs, acc, qs, I6.rebase ((I3b.zu s5).same), hp1', hp3, s6.at hRx, hdx.same (up s6), keepQ s6, e7⟩
              cases ega : ga ρ0 with
              | none => rw [ega] at eT; cases eT
              | some rg =>
                rw [ega] at eT
                cases rg with
                | error er0 =>
                  dsimp only at eT
                  split at eT
                  · rename_i hh
                    have hr3 := (Option.some.inj eT).symm
                    refine yB I3b.di ega (fun er z => ?_) (fun vs xs H1 z => nomatch z)
                    cases z
                    exact fun dd H5 s5 hd5 => onErr er0.1 er0.2 hh hr3 dd H5 _ s5 hd5 rfl
                  · cases eT
                | ok vs =>
                  split at eT
                  · rename_i ws hvs
                    cases hvs
                    split at eT
                    · rename_i hsc
                      refine yB I3b.di ega (fun er z => nomatch z) fun vs' ys0 H1 ev s3 hv I4d => ?_
                      cases ev
                      cases hv with
                      | cons hv1 hv2 =>
                        cases hv2
                        obtain ⟨p1, us, rfl, np1, hp1, hus⟩ := hv1
                        have s23 := s2.trans s3
                        let Z1 : Addr → Prop := fun b => H1 b ≠ none ∧ b ≠ p1
                        have nZ1 : ¬ Z1 p1 := fun z => z.2 rfl
                        have arg : DpAll X.K (hide H1 Z1) [V.ref p1] [.list ws] := .cons (.lst (Rd.of (ze nZ1 hp1)) (DpAll.scalar hsc hus)) .nil
                        cases eF : F [.list ws] with
                        | none => rw [eF] at eT; cases eT
                        | some oF =>
                          rw [eF] at eT
                          refine ⟨Z1, [.list ws], oF, ⟨fun b z => z.1, I4d.tb⟩, arg, rfl, eF, ?_⟩
                          cases oF with
                          | retF _ => cases eT
                          | retX _ _ => cases eT
                          | exc c j =>
                            dsimp only at eT
                            split at eT
                            · rename_i hh
                              have hr3 := (Option.some.inj eT).symm
                              exact fun dd H5 s5 hd5 => onErr c j hh hr3 dd H5 _ (s3.trans s5) hd5 rfl
                            · cases eT
                          | ret dF =>
                            cases dF with
                            | tuple ls =>
                              dsimp only at eT
                              split at eT
                              · rename_i zs a b el1 ea1 eb1
                                split at eT
                                · rename_i hok2
                                  obtain ⟨hlen, hline⟩ := hok2
                                  cases eT
                                  intro v H6 s6 hdv
                                  obtain ⟨T, ys, rfl, hT, hys⟩ := hdv.kD
                                  obtain ⟨vq, eq1, hq1⟩ := hys.get el1
                                  obtain ⟨qn, zv, rfl, hqr, hqz⟩ := hq1.lst_inv
                                  have notZ1 : ∀ b, ¬ Z1 b → H1 b = none ∨ b = p1 := fun b nz => by
                                    by_cases hb : H1 b = none
                                    · exact .inl hb
                                    · refine .inr ?_
                                      by_cases hb2 : b = p1
                                      · exact hb2
                                      · exact absurd ⟨hb, hb2⟩ nz
                                  have hqz' : hide H6 Z1 qn = some (.lst zv) := by
                                    rcases hqr with h | ⟨o, h⟩
                                    · exact h
                                    · exfalso
                                      obtain ⟨nz, h6⟩ := zi h
                                      have h1 := s6.nf _ _ _ h6
                                      rcases notZ1 qn nz with z | z
                                      · rw [z] at h1; cases h1
                                      · rw [z, hp1] at h1; cases h1
                                  obtain ⟨nqZ, hq6⟩ := zi hqz'
                                  have nq1 : H1 qn = none := by
                                    rcases notZ1 qn nqZ with z | z
                                    · exact z
                                    · exfalso
                                      rw [z, s6.at hp1] at hq6
                                      cases hq6
                                      have l1 := hqz.length
                                      have l2 := hus.length
                                      omega
                                  have I5 : SI X.K Cl U Zh H6 (σ3.set il (some (.ref T))) (ρ0.set il .un) := (I3b.zu (s3.trans s6)).kam
                                  have p5 : (ρ0.set il .un)[i]? = some (.pin R) := by rw [List.getElem?_set_ne (Ne.symm hin)]; exact hp1'
                                  have a5 : (ρ0.set il .un)[i1]? = some (.dat a) := by rw [List.getElem?_set_ne (Ne.symm hi1)]; exact ea1
                                  have b5 : (ρ0.set il .un)[i2]? = some (.dat b) := by rw [List.getElem?_set_ne (Ne.symm hi2)]; exact eb1
                                  have ea5 : eV i1 (ρ0.set il .un) = some (.ok (.s a)) := by unfold eV; rw [a5]; rfl
                                  have eb5 : eV i2 (ρ0.set il .un) = some (.ok (.s b)) := by unfold eV; rw [b5]; rfl
                                  have l3 : il < σ3.length := by rw [← I3b.di.len, hp3]; exact hill
                                  have s26 := s23.trans s6
                                  have hR6 := s26.at hRx
                                  have ofZ5 : ∀ {H5 : Hp}, zd (hide H5 (Zo Zh (σ3.set il (some (.ref T))) (ρ0.set il .un))) (hide H5 Zh) := fun {H5} => vd (zd.refl _) fun b hb => .inl (.inl hb)
                                  show tBM X.K "list" rAppend (tVar i) _ (σ3.set il (some (.ref T))) H6 _
                                  refine ⟨.ref R, slotI I5 p5, .inl ⟨rfl, xs, .inl (.inl hR6)⟩, qK (f := eV i1) I5.di ea5 (fun er z => nomatch z) fun va ua H7 ev s7 hva _ => ?_⟩
                                  cases ev
                                  refine qK (f := eV i2) (I5.zu s7).di eb5 (fun er z => nomatch z) fun vb ub H8 ev s8 hvb _ => ?_
                                  cases ev
                                  refine ⟨.ref T, by rw [List.getElem?_set, if_pos rfl, if_pos l3], by rw [sizeLine_eq]; exact (by decide : 3 ≤ 16777216), fun T0 nT0 => ?_⟩
                                  have sT : Same Cl H8 (upd H8 T0 (.tup [ua, ub, .ref T])) := jv nT0
                                  have hT9 : upd H8 T0 (.tup [ua, ub, .ref T]) T0 = some (.tup [ua, ub, .ref T]) := upd_same
                                  have I9 := I5.zu (s7.trans (s8.trans sT))
                                  have nT0Z : ¬ Zh T0 := fun z => (I5.zu (s7.trans s8)).di.live T0 z nT0
                                  generalize upd H8 T0 (.tup [ua, ub, .ref T]) = H9 at *
                                  have s69 := s7.trans (s8.trans sT)
                                  have s29 := s26.trans s69
                                  have hR9 := s69.at hR6
                                  refine ⟨R, xs, .ref T0, rfl, rfl, hR9, ?_, ?_⟩
                                  · have l1 := hdx.length
                                    have := kA hline
                                    omega
                                  have I10 := I9.jbf (zs := xs ++ [.ref T0]) (.inr rfl) (Us R rfl) hR9
                                  have m10 : zd (hide H9 Zh) (hide (upd H9 R (.lst (xs ++ [.ref T0]))) Zh) := zaJ (.inr rfl)
                                  have h1R : H1 R = some (.lst xs) := (s23.at hRx)
                                  have qR : qn ≠ R := fun z => by rw [z, h1R] at nq1; cases nq1
                                  have mZ : zd (hide H6 Z1) (hide H9 Zh) := vd s69.d fun b hb => .inl ⟨s3.live b (I3b.di.live b hb), fun z => by
                                    have := I3b.di.live b hb
                                    rw [z] at this
                                    exact this np1⟩
                                  have dT : Dp X.K (hide H9 Zh) (.ref T0) (.tuple [a, b, .tuple ls]) := .tup (SqT.of (ze nT0Z hT9)) (.cons (Dp.same (xl (s8.trans sT) fun _ h => .inl h) (Dp.same ofZ5 hva)) (.cons (Dp.same (xl sT fun _ h => .inl h) (Dp.same ofZ5 hvb)) (.cons (Dp.same mZ hdv) .nil)))
                                  refine ⟨ρ0.set il .un, xs ++ [.ref T0], acc ++ [.tuple [a, b, .tuple ls]], qs ++ [qn], I10, p5, by rw [List.length_set]; exact hp3, upd_same, DpAll.append (DpAll.same m10 (hdx.same (up s29))) (.cons (Dp.same m10 dT) .nil), ⟨?_, ?_, ?_, ?_⟩, e'⟩
                                  · rw [List.length_append, List.length_append, ql]
                                    rfl
                                  · rw [List.nodup_append]
                                    refine ⟨qnd, List.pairwise_singleton _ _, fun a1 ha1 b1 hb1 z => ?_⟩
                                    rw [List.mem_singleton.mp hb1] at z
                                    have := s23.live a1 (qlv a1 ha1)
                                    rw [z] at this
                                    exact this nq1
                                  · intro q' hq'
                                    by_cases hqR : q' = R
                                    · rw [hqR, upd_same]; intro z; cases z
                                    · rw [upd_ne hqR]
                                      rcases List.mem_append.mp hq' with z | z
                                      · exact s29.live q' (qlv q' z)
                                      · rw [List.mem_singleton.mp z]
                                        rw [s69.at hq6]; intro z; cases z
                                  · intro j' x d q' h1 h2 h3
                                    have hal := hdx.length
                                    rw [List.getElem?_append] at h1 h2 h3
                                    by_cases hj : j' < xs.length
                                    · rw [if_pos hj] at h1
                                      rw [if_pos (by omega)] at h2
                                      rw [if_pos (by omega)] at h3
                                      have f := qf j' x d q' h1 h2 h3
                                      exact f.to ((up s29).trans m10) fun zs z => by rw [upd_ne f.ne]; exact s29.at z
                                    · rw [if_neg hj] at h1
                                      rw [if_neg (by omega)] at h2
                                      rw [if_neg (by omega)] at h3
                                      rw [List.getElem?_singleton] at h1 h2 h3
                                      split at h1
                                      · cases h1
                                        rw [if_pos (by omega)] at h2
                                        rw [if_pos (by omega)] at h3
                                        cases h2
                                        cases h3
                                        exact ⟨⟨T0, T, ua, ub, a, b, ys, ls, zv, zs, rfl, rfl, SqT.same m10 (SqT.of (ze nT0Z hT9)), Dp.same m10 (Dp.same (xl (s8.trans sT) fun _ h => .inl h) (Dp.same ofZ5 hva)), Dp.same m10 (Dp.same (xl sT fun _ h => .inl h) (Dp.same ofZ5 hvb)), SqT.same m10 (SqT.same mZ hT), DpAll.same m10 (DpAll.same mZ hys), eq1, el1, by rw [upd_ne qR]; exact s69.at hq6, DpAll.same m10 (DpAll.same mZ hqz)⟩, qR, (sHU.trans (I3b.same.trans s3)).free nq1⟩
                                      · cases h1
                                · cases eT
                              · cases eT
                            | _ => cases eT
                    · cases eT
                  · rename_i hh
                    cases hh
                  · cases eT
            · cases eT
          · have het : t = ds.length := by omega
            subst het
            rw [List.drop_length] at e'
            unfold waK at e'
            cases e'
            refine .inl ⟨stop _ (Nat.le_refl _), ?_⟩
            refine ⟨.ref R, slotI I' hqi, ?_⟩
            refine q R xs H' (sHU.trans I'.same) nR hRx (DpAll.same (vd (zd.refl _) fun b hb => .inl hb) hdx) ⟨qs, ql, qnd, fun j x d q h1 h2 h3 => (qf j x d q h1 h2 h3).to (vd (zd.refl _) fun b hb => .inl hb) fun _ z => z⟩
    · cases e
  · cases e
end
structure TK (H H' : Hp) : Prop where
  t : ∀ b ys, H b = some (.tup ys) → H' b = some (.tup ys)
  f : ∀ b o ys, H b = some (.frz o (.tup ys)) → H' b = some (.frz o (.tup ys))
theorem TK.refl (H : Hp) : TK H H := ⟨fun _ _ h => h, fun _ _ _ h => h⟩
theorem TK.same {Cl : Nat → Addr} {H H1 H2 : Hp} (t : TK H H1) (s : Same Cl H1 H2) : TK H H2 := ⟨fun b ys h => s.d _ _ (t.t b ys h) rfl, fun b o ys h => s.d _ _ (t.f b o ys h) rfl⟩
theorem TK.jbf {H H1 : Hp} {q : Addr} {zs ws : List V} (t : TK H H1) (hq : H1 q = some (.lst zs)) : TK H (upd H1 q (.lst ws)) :=
  ⟨fun b ys h => by
    have := t.t b ys h
    rw [upd_ne fun z => by rw [z, hq] at this; cases this]
    exact this, fun b o ys h => by
    have := t.f b o ys h
    rw [upd_ne fun z => by rw [z, hq] at this; cases this]
    exact this⟩
theorem SqT.view {K : PySem.W.Frag} {H2 H' : Hp} {Z1 Z2 : Addr → Prop} {T : Addr} {ys : List V} (h : SqT K (hide H2 Z1) T ys) (tk : TK H2 H') (hz : ∀ b, Z2 b → Z1 b ∨ ∃ zs, H2 b = some (.lst zs)) : SqT K (hide H' Z2) T ys := by
  have nz : ∀ {o : HO}, hide H2 Z1 T = some o → (∀ zs, o ≠ .lst zs) → ¬ Z2 T := fun {o} h n z => by
    obtain ⟨n1, h1⟩ := zi h
    rcases hz T z with z | ⟨zs, z⟩
    · exact n1 z
    · rw [z] at h1
      exact n zs (Option.some.inj h1).symm
  rcases h with (h | ⟨o, h⟩) | h
  · exact .inl (.inl (ze (nz h fun zs z => nomatch z) (tk.t _ _ (zi h).2)))
  · exact .inl (.inr ⟨o, ze (nz h fun zs z => nomatch z) (tk.f _ _ _ (zi h).2)⟩)
  · exact .inr h
theorem Dp.qca {K : PySem.W.Frag} {H H' : Hp} {v : V} {d : D} (hs : vj d = true) (h : Dp K H v d) : Dp K H' v d := by
  have q := DpAll.scalar (H' := H') (ds := [d]) (by rw [List.all_cons, hs]; rfl) (.cons h .nil)
  cases q with
  | cons a _ => exact a
theorem DpAll.one {K : PySem.W.Frag} {H H' : Hp} {k : Nat} {q : Addr} {ys : List V} {ds ws : List D} (h : DpAll K H ys ds) (hy : ys[k]? = some (.ref q)) (hd : ds[k]? = some (.list ws)) (hs : (ds.set k .none).all vj = true) (hq : Dp K H' (.ref q) (.list ws)) : DpAll K H' ys ds := by
  have h1 : DpAll K H' (ys.set k .non) (ds.set k .none) := DpAll.scalar hs (DpAll.set .non k h)
  have h2 := DpAll.set hq k h1
  rw [List.set_set, List.set_set] at h2
  obtain ⟨l1, e1⟩ := List.getElem?_eq_some_iff.mp hy
  obtain ⟨l2, e2⟩ := List.getElem?_eq_some_iff.mp hd
  have r1 : ys.set k (.ref q) = ys := by rw [← e1]; exact List.set_getElem_self l1
  have r2 : ds.set k (.list ws) = ds := by rw [← e2]; exact List.set_getElem_self l2
  rw [r1, r2] at h2
  exact h2
def vbi (k : Nat) (d : D) : Bool := match d with
  | .tuple [a, b, .tuple ls] => vj a && (vj b && ((ls.set k .none).all vj && (match ls[k]? with
    | some (.list ws) => ws.all vj && yo (ws.length + 1)
    | _ => false)))
  | _ => false
def FiT (k1 k2 k3 : Nat) (t4 t5 : FT) (ρ : jc) (d : D) : Prop := ∃ a b ls, d = .tuple [a, b, .tuple ls] ∧ t4 (((ρ.set k1 (.dat a)).set k2 (.dat b)).set k3 (.dat (.tuple ls))) = some (.ok false) ∧ t5 (((ρ.set k1 (.dat a)).set k2 (.dat b)).set k3 (.dat (.tuple ls))) = some (.ok false)
open Classical in
noncomputable def za4 (i j k1 k2 k3 kx : Nat) (F : TF) (n : Nat) (g : FA) (f2 : FE) (t3 t4 t5 : FT) (rest : FS) : FS := fun ρ => if (noOwn ρ [i, j, k1, k2, k3] && (decide (i ≠ j) && (decide (i ≠ k1) && (decide (i ≠ k2) && (decide (i ≠ k3) && (decide (k1 ≠ k2) && (decide (k1 ≠ k3) && (decide (k2 ≠ k3) && (decide (i < ρ.length) && (decide (k1 < ρ.length) && (decide (k2 < ρ.length) && decide (k3 < ρ.length)))))))))))) = true then match g ρ with
  | some (.ok vs) => match vw vs with
    | some as => if as.length = n then match F as with
      | some ds => if ds.all (vbi kx) = true ∧ yo (ds.length + 1) = true then match f2 (ρ.set i .un) with
        | some (.ok v2) => match v2.st with
          | some d2 => match t3 (((ρ.set i .un).set j (.dat d2)).set i (.dat (.list ds))) with
            | some (.ok false) => if ∀ d ∈ ds, FiT k1 k2 k3 t4 t5 (((((ρ.set i .un).set j (.dat d2)).set k1 .un).set k2 .un).set k3 .un) d then rest (((((ρ.set i .un).set j (.dat d2)).set k1 .un).set k2 .un).set k3 .un) else none
            | _ => none
          | none => none
        | _ => none else none
      | none => none else none
    | none => none
  | _ => none else none
section
variable {X : Cx} {Cl : Nat → Addr} {W : WX} {e : Expr} {es : List Expr} {g : FA} {f2 : FE} {t3 t4 t5 : FT} {rest : FS}
theorem qcs {n lv i j k1 k2 k3 kx tk0 : Nat} {F : TF} {fa : Addr} {fd : FuncData} {ps : List Str} {x y y2 z1 z2 z3 : Str} {c4 c5 : D} {e2 c3 cc4 cc5 app4 app5 : Expr} {p p1 p2 p4 q1 q2 q3 q4 pos0 pos1 pos2 pos3 pos4 pos5 pos6 pos7 pos8 : Pos} {sa sa4 sa5 srest : List Stmt} (hc : X.calm = true) (hN : X.N.Nodup) (hpo : PassesOwn (model X.prog X.w) X.A X.env X.xe)
    (G : FnOk X.prog X.w X.K X.mg X.base (L2.CX X.prog X.w) lv fa fd ps (spF X.K Cl kx n F)) (tk : Takes X W) (hr : Room lv X.A) (hm : X.mg x = some (.ref fa)) (hk : PySem.W.keepIn X.K (.ref fa) = true) (hb : Binds X.K fd ps [])
    (ha : DA X Cl W (e :: es) g) (h2 : DE X Cl W e2 f2) (h3 : DT X Cl W c3 t3) (h4 : DT X Cl W cc4 t4) (h5 : DT X Cl W cc5 t5) (hv : PE X (.Name y p4) (tVar i))
    (ha4 : PE X app4 (tBM X.K "list" rAppend (tOp (rIxT X.K) (tVar k3) (tC (.int (kx : Nat)))) (tCons (vM X.K Cl W (eC c4)) tNil))) (ha5 : PE X app5 (tBM X.K "list" rAppend (tVar i) (tCons (vM X.K Cl W (eC c5)) tNil))) (hrest : DSs X Cl W srest rest)
    (hg : Gl X x := by rfl) (hdb : (x == ("__debug__" : Str)) = false := by decide) (he : starEach (e :: es) X.env = (false, eval e X.env) :: starEach es X.env := by rfl) (hpl : (backTo pos0 (starEach es X.env)).any (·.1) = false := by rfl)
    (hi : X.N[i]? = some y := by rfl) (hx : Loc X.env.scope y := by first | exact .inl rfl | exact .inr rfl) (hf : X.fn y = true ∨ X.env.scope.names.lookup y = some .local := by first | exact .inl rfl | exact .inr rfl)
    (hj : X.N[j]? = some y2 := by rfl) (hxj : Loc X.env.scope y2 := by first | exact .inl rfl | exact .inr rfl) (hfj : X.fn y2 = true ∨ X.env.scope.names.lookup y2 = some .local := by first | exact .inl rfl | exact .inr rfl)
    (hk1 : X.N[k1]? = some z1 := by rfl) (hx1 : Loc X.env.scope z1 := by first | exact .inl rfl | exact .inr rfl) (hf1 : X.fn z1 = true ∨ X.env.scope.names.lookup z1 = some .local := by first | exact .inl rfl | exact .inr rfl)
    (hk2 : X.N[k2]? = some z2 := by rfl) (hx2 : Loc X.env.scope z2 := by first | exact .inl rfl | exact .inr rfl) (hf2 : X.fn z2 = true ∨ X.env.scope.names.lookup z2 = some .local := by first | exact .inl rfl | exact .inr rfl)
    (hk3 : X.N[k3]? = some z3 := by rfl) (hx3 : Loc X.env.scope z3 := by first | exact .inl rfl | exact .inr rfl) (hf3 : X.fn z3 = true ∨ X.env.scope.names.lookup z3 = some .local := by first | exact .inl rfl | exact .inr rfl)
    (hs : swapsWith (.Call (.Name x p) (e :: es) [] pos0) (some (.Name y p1)) pos1.line X.env = pure false := by rfl) (hs2 : swapsWith e2 (some (.Name y2 p2)) pos2.line X.env = pure false := by rfl)
    (hs4 : swapsWith app4 none pos6.line X.env = pure false := by rfl) (hs5 : swapsWith app5 none pos7.line X.env = pure false := by rfl) (hse : ∀ x, foldedSetIterable (.Name y p4) X.env x = pure x := by intro _; rfl)
    (hn3 : (assignEach [.Name z1 q1, .Name z2 q2, .Name z3 q3] X.env).length = 3 := by rfl) (hst3 : (assignEach [.Name z1 q1, .Name z2 q2, .Name z3 q3] X.env).findIdx? (·.1) = none := by rfl)
    (hp1 : (assignEach (.Name z1 q1 :: [.Name z2 q2, .Name z3 q3]) X.env).map (·.2) = assign (.Name z1 q1) X.env :: (assignEach [.Name z2 q2, .Name z3 q3] X.env).map (·.2) := by rfl)
    (hp2 : (assignEach (.Name z2 q2 :: [.Name z3 q3]) X.env).map (·.2) = assign (.Name z2 q2) X.env :: (assignEach [.Name z3 q3] X.env).map (·.2) := by rfl)
    (hp3 : (assignEach (.Name z3 q3 :: []) X.env).map (·.2) = assign (.Name z3 q3) X.env :: (assignEach [] X.env).map (·.2) := by rfl) :
    DSs X Cl W (.Assign [.Name y p1] (.Call (.Name x p) (e :: es) [] pos0) pos1 :: .Assign [.Name y2 p2] e2 pos2 :: .If c3 sa [] pos3 :: .For (.Tuple [.Name z1 q1, .Name z2 q2, .Name z3 q3] tk0 q4) (.Name y p4) [.If cc4 sa4 [] pos4, .If cc5 sa5 [] pos5, .Expr app4 pos6] [] pos8 :: .Expr app5 pos7 :: srest) (za4 i j k1 k2 k3 kx F n g f2 t3 t4 t5 rest) :=
  PSs.imp (pss_cons (ps_set hN hi hx (pe_callS (E := WE W) G hr hg hm hk hb (fun σ => passAt tk σ) ha hdb he hpl) hs hf) (pss_cons (ps_set hN hj hxj h2 hs2 hfj) (pss_cons (ps_if h3 pss_never pss_nil) (pss_cons (ps_for hpo hc (pi_list hv) (pg_tup hc (pgs_cons (pg_name hN hk1 hx1 hf1) (pgs_cons (pg_name hN hk2 hx2 hf2) (pgs_cons (pg_name hN hk3 hx3 hf3) pgs_nil hp3) hp2) hp1) hn3 hst3) (pss_cons (ps_if h4 pss_never pss_nil) (pss_cons (ps_if h5 pss_never pss_nil) (pss_cons (ps_expr ha4 hs4) pss_nil))) hse) (pss_cons (ps_expr ha5 hs5) hrest))))) fun D σ H ⟨H0, Z, ρ, o, I, e, q⟩ => by
  unfold za4 at e
  split at e
  · rename_i hno
    simp only [Bool.and_eq_true, decide_eq_true_eq] at hno
    obtain ⟨hno, hij, hi1, hi2, hi3, h12, h13, h23, hil, hl1, hl2, hl3⟩ := hno
    split at e
    · rename_i vs e1
      split at e
      · rename_i as hst
        split at e
        · rename_i hn
          split at e
          · rename_i ds eF
            split at e
            · rename_i hfinds
              obtain ⟨hfin, hline⟩ := hfinds
              split at e
              · rename_i v2 ef2
                split at e
                · rename_i d2 hd2
                  split at e
                  · rename_i et3
                    split at e
                    · rename_i htests
                      refine yB I.di e1 (fun er z => nomatch z) fun vs' xs0 H1 ev s1 hvs I1 => ?_
                      cases ev
                      refine ⟨Zo Z σ ρ, as, ds, ⟨fun b z => I1.jZ z, I1.tb⟩, hvs.stab I.di hst, hn, eF, fun p xs H2 s2 np hp hd hfx => ?_⟩
                      obtain ⟨qs, ql, qnd, qf⟩ := hfx
                      have I2 : SI X.K Cl H0 Z H1 σ ρ := I.zu s1
                      have hdl := hd.length
                      let S : Addr → Prop := fun a => H1 a = none ∧ ∃ zs, H2 a = some (.lst zs)
                      have hS1 : ∀ a, S a → H1 a = none := fun a h => h.1
                      have hS2 : ∀ a, S a → H2 a ≠ none := fun a h => by
                        obtain ⟨_, zs, h⟩ := h
                        rw [h]; intro z; cases z
                      have hS0 : ∀ a, S a → H0 a = none := fun a h => I2.same.free (hS1 a h)
                      have hSp : S p := ⟨np, xs, hp⟩
                      have hlen : σ.length = ρ.length := I.di.len.symm
                      have set_id : ∀ (τ : St) (m : Nat) (x : Option V), τ[m]? = some x → τ.set m x = τ := fun τ m x h => by
                        obtain ⟨h1, h2⟩ := List.getElem?_eq_some_iff.mp h
                        rw [← h2]
                        exact List.set_getElem_self h1
                      have I3 := (I2.hid s2 hS1 hS2).kam (i := i) (x := some (.ref p))
                      generalize hσ1 : σ.set i (some (.ref p)) = σ1 at I3
                      generalize hρ1 : ρ.set i .un = ρ1 at I3 ef2 et3 e htests
                      have e1i : σ1[i]? = some (some (.ref p)) := by rw [← hσ1, List.getElem?_set, if_pos rfl, if_pos (by rw [hlen]; exact hil)]
                      have own1 : ∀ a, qk σ1 ρ1 a → qk σ ρ a := fun a ⟨m, hm⟩ => ⟨m, by
                        rw [← hσ1, ← hρ1] at hm
                        exact qy (s := .un) (fun z => nomatch z) hm⟩
                      have l1 : σ1.length = ρ.length := by rw [← hσ1, List.length_set, hlen]
                      subst hσ1
                      -- the second name
                      refine qK I3.di ef2 (fun er z => nomatch z) fun v2' x2 H3 ev2 s3 hv2 _ => ?_
                      cases ev2
                      have I3' := I3.zu s3
                      have hx2 := hv2.stab I3.di hd2
                      have I5 := I3'.yz (i := j) hx2
                      generalize hσ2 : (σ.set i (some (.ref p))).set j (some x2) = σ2 at I5
                      generalize hρ2 : ρ1.set j (.dat d2) = ρ2 at I5 et3 e htests
                      have e2i : σ2[i]? = some (some (.ref p)) := by rw [← hσ2, List.getElem?_set_ne (Ne.symm hij)]; exact e1i
                      have l2 : σ2.length = ρ.length := by rw [← hσ2, List.length_set, l1]
                      have own2 : ∀ a, qk σ2 ρ2 a → qk σ ρ a := fun a ⟨m, hm⟩ => own1 a ⟨m, by
                        rw [← hσ2, ← hρ2] at hm
                        exact qy (s := .dat d2) (fun z => nomatch z) hm⟩
                      have np2 : ¬ Zo Z σ2 ρ2 p := fun z => by
                        rcases z with z | z
                        · exact I2.di.live p z np
                        · exact I2.di.yaI (own2 p z) np
                      have hdp2 : Dp X.K (hide H3 (Zo Z σ2 ρ2)) (.ref p) (.list ds) := .lst (Rd.of (ze np2 (s3.at hp))) (DpAll.same (xl s3 fun b hb => .inl (by
                        rcases hb with hb | hb
                        · exact .inl (.inl hb)
                        · exact .inl (.inr (own2 b hb)))) hd)
                      have V4 := (I5.less (Z := Z) fun a h => .inl h).di.yz (i := i) hdp2
                      rw [set_id σ2 i _ e2i] at V4
                      subst hσ2
                      refine wZ V4 et3 (fun er z => by cases z) fun b3 H5 eb3 s5 _ => ?_
                      cases eb3
                      rw [if_neg Bool.false_ne_true]
                      have s25 : Same Cl H2 H5 := s3.trans s5
                      have I5' := I5.zu s5
                      generalize hσ3 : (σ.set i (some (.ref p))).set j (some x2) = σ3 at I5' e2i l2 own2
                      generalize hρ3 : ((ρ2.set k1 .un).set k2 .un).set k3 .un = ρ3 at e htests
                      have own3 : ∀ (a1 a2 a3 : Option V) (a : Addr), qk (((σ3.set k1 a1).set k2 a2).set k3 a3) ρ3 a → qk σ ρ a := fun a1 a2 a3 a ⟨m, hm⟩ => own2 a ⟨m, by
                        rw [← hρ3] at hm
                        exact qy (s := .un) (fun z => nomatch z) (qy (s := .un) (fun z => nomatch z) (qy (s := .un) (fun z => nomatch z) hm))⟩
                      have lρ3 : ρ3.length = ρ.length := by rw [← hρ3, ← hρ2, ← hρ1]; simp
                      have I7 : ∀ (a1 a2 a3 : Option V), SI X.K Cl H0 (fun a => Z a ∨ S a) H5 (((σ3.set k1 a1).set k2 a2).set k3 a3) ρ3 := fun a1 a2 a3 => by
                        rw [← hρ3]
                        exact ((I5'.kam (i := k1) (x := a1)).kam (i := k2) (x := a2)).kam (i := k3) (x := a3)
                      have sid : ((σ3.set k1 (σ3[k1]'(by omega))).set k2 (σ3[k2]'(by omega))).set k3 (σ3[k3]'(by omega)) = σ3 := by
                        rw [set_id σ3 k1 _ (List.getElem?_eq_getElem _), set_id σ3 k2 _ (List.getElem?_eq_getElem _), set_id σ3 k3 _ (List.getElem?_eq_getElem _)]
                      have set3 : ∀ (a1 a2 a3 b1 b2 b3 : Option V), ((((((σ3.set k1 a1).set k2 a2).set k3 a3).set k1 b1).set k2 b2).set k3 b3) = ((σ3.set k1 b1).set k2 b2).set k3 b3 := fun a1 a2 a3 b1 b2 b3 => by
                        refine List.ext_getElem? fun m => ?_
                        simp only [List.getElem?_set, List.length_set]
                        by_cases z3 : k3 = m
                        · subst z3; simp
                        · by_cases z2 : k2 = m
                          · subst z2; simp [z3]
                          · by_cases z1 : k1 = m
                            · subst z1; simp [z3, z2]
                            · simp [z3, z2, z1]
                      have gk1 : ρ3[k1]? = some .un := by rw [← hρ3, List.getElem?_set_ne (Ne.symm h13), List.getElem?_set_ne (Ne.symm h12), List.getElem?_set, if_pos rfl, if_pos (by rw [← hρ2, ← hρ1, List.length_set, List.length_set]; exact hl1)]
                      have gk2 : ρ3[k2]? = some .un := by rw [← hρ3, List.getElem?_set_ne (Ne.symm h23), List.getElem?_set, if_pos rfl, if_pos (by rw [← hρ2, ← hρ1, List.length_set, List.length_set, List.length_set]; exact hl2)]
                      have gk3 : ρ3[k3]? = some .un := by rw [← hρ3, List.getElem?_set, if_pos rfl, if_pos (by rw [← hρ2, ← hρ1, List.length_set, List.length_set, List.length_set, List.length_set]; exact hl3)]
                      have rid : ∀ {m : Nat}, ρ3[m]? = some .un → ρ3.set m .un = ρ3 := fun {m} h => by
                        obtain ⟨h1, h2⟩ := List.getElem?_eq_some_iff.mp h
                        rw [← h2]
                        exact List.set_getElem_self h1
                      refine ⟨_, e2i, p, rfl, ⟨xs, .inl (.inl (s25.at hp))⟩, fun t m σ' H' => (∃ a1 a2 a3 : Option V, σ' = ((σ3.set k1 a1).set k2 a2).set k3 a3 ∧ SI X.K Cl H0 (fun a => Z a ∨ S a) H' σ' ρ3 ∧ H' p = some (.lst xs) ∧ TK H2 H' ∧ (∀ (j' : Nat) q zs, t ≤ j' → qs[j']? = some q → H2 q = some (.lst zs) → H' q = some (.lst zs))) ∧ m = xs.length - t ∧ t ≤ xs.length,
                        ⟨_, ⟨_, _, _, sid.symm, by have z := I7 (σ3[k1]'(by omega)) (σ3[k2]'(by omega)) (σ3[k3]'(by omega)); rw [sid] at z; exact z, s25.at hp, (TK.refl H2).same s25, fun j' q zs _ _ h => s25.at h⟩, rfl, Nat.zero_le _⟩, fun t m σ' H' => ?_⟩
                      rintro ⟨⟨a1, a2, a3, rfl, I', hp', htk, hlive⟩, rfl, htl⟩
                      have ei : (((σ3.set k1 a1).set k2 a2).set k3 a3)[i]? = some (some (.ref p)) := by rw [List.getElem?_set_ne (Ne.symm hi3), List.getElem?_set_ne (Ne.symm hi2), List.getElem?_set_ne (Ne.symm hi1)]; exact e2i
                      by_cases hlt : t < xs.length
                      · refine .inr ⟨⟨xs, xs[t], .inl (.inl hp'), List.getElem?_eq_getElem hlt⟩, fun σ5 H5 => ∃ a1 a2 a3 : Option V, σ5 = ((σ3.set k1 a1).set k2 a2).set k3 a3 ∧ SI X.K Cl H0 (fun a => Z a ∨ S a) H5 σ5 ρ3 ∧ H5 p = some (.lst xs) ∧ TK H2 H5 ∧ (∀ (j' : Nat) q zs, (t + 1) ≤ j' → qs[j']? = some q → H2 q = some (.lst zs) → H5 q = some (.lst zs)),
                          fun σ5 H5 hI => ⟨xs.length - (t + 1), by omega, hI, rfl, hlt⟩, fun x H'' y => ?_⟩
                        obtain ⟨rfl, hx⟩ := y
                        have hx := hx xs (.inl (.inl hp'))
                        have hdt : ds[t]? = some (ds[t]'(by omega)) := List.getElem?_eq_getElem _
                        have hqt : qs[t]? = some (qs[t]'(by omega)) := List.getElem?_eq_getElem _
                        have hmem := List.mem_of_getElem? hdt
                        have hfx := qf t x _ _ hx hdt hqt
                        generalize ds[t]'(by omega) = dt at *
                        generalize qs[t]'(by omega) = qn at *
                        obtain ⟨⟨T0, T, u, v, a, b, ys, lf, zs, ws, rfl, rfl, h1, h2', h3', h4', h5', h6, h7, h8, h9⟩, ne, nw⟩ := hfx
                        have hfo := List.all_eq_true.mp hfin _ hmem
                        unfold vbi at hfo
                        dsimp only at hfo
                        rw [h7] at hfo
                        dsimp only at hfo
                        simp only [Bool.and_eq_true] at hfo
                        obtain ⟨sa1, sb1, sl1, sw1, sline⟩ := hfo
                        have hSq : S qn := ⟨nw, zs, h8⟩
                        have hq'' : H'' qn = some (.lst zs) := hlive t qn zs (Nat.le_refl _) hqt h8
                        let Zq : Addr → Prop := fun c => Z c ∨ (S c ∧ c ≠ qn)
                        have I8 : ∀ (b1 b2 b3 : Option V), SI X.K Cl H0 (fun a => Z a ∨ S a) H'' (((σ3.set k1 b1).set k2 b2).set k3 b3) ρ3 := fun b1 b2 b3 => by
                          have w := ((I'.kam (i := k1) (x := b1)).kam (i := k2) (x := b2)).kam (i := k3) (x := b3)
                          rw [rid gk1, rid gk2, rid gk3, set3] at w
                          exact w
                        have hz0 : ∀ (b1 b2 b3 : Option V) (c : Addr), Zo Zq (((σ3.set k1 b1).set k2 b2).set k3 b3) ρ3 c → ZP (Zo Z σ ρ) p c ∨ ∃ zs, H2 c = some (.lst zs) := fun b1 b2 b3 c hc => by
                          rcases hc with (hc | ⟨hc, _⟩) | hc
                          · exact .inl (.inl (.inl hc))
                          · exact .inr hc.2
                          · exact .inl (.inl (.inr (own3 b1 b2 b3 c hc)))
                        refine ⟨T0, [u, v, .ref T], rfl, SqT.same kf (SqT.view (Z2 := Zo Zq (((σ3.set k1 a1).set k2 a2).set k3 a3) ρ3) h1 htk (hz0 a1 a2 a3)), rfl, u, _, rfl, v, _, rfl, .ref T, [], rfl, rfl, ?_⟩
                        rw [set3]
                        have J8 := I8 (some u) (some v) (some (.ref T))
                        have z8 := hz0 (some u) (some v) (some (.ref T))
                        have V8 : DI X.K Cl Zq H'' (((σ3.set k1 (some u)).set k2 (some v)).set k3 (some (.ref T))) ρ3 := (J8.less fun c h => h.imp id fun h => h.1).di
                        have nq8 : ¬ Zo Zq (((σ3.set k1 (some u)).set k2 (some v)).set k3 (some (.ref T))) ρ3 qn := fun z => by
                          rcases z with (z | z) | z
                          · exact I2.di.live qn z nw
                          · exact z.2 rfl
                          · exact I2.di.yaI (own3 _ _ _ qn z) nw
                        generalize hσ8 : ((σ3.set k1 (some u)).set k2 (some v)).set k3 (some (.ref T)) = σ8 at J8 z8 V8 nq8
                        have ga : Dp X.K (hide H'' (Zo Zq σ8 ρ3)) u a := Dp.qca sa1 h2'
                        have gb : Dp X.K (hide H'' (Zo Zq σ8 ρ3)) v b := Dp.qca sb1 h3'
                        have gq : Dp X.K (hide H'' (Zo Zq σ8 ρ3)) (.ref qn) (.list ws) := .lst (Rd.of (ze nq8 hq'')) (DpAll.scalar sw1 h9)
                        have gT : Dp X.K (hide H'' (Zo Zq σ8 ρ3)) (.ref T) (.tuple lf) := .tup (SqT.view h4' htk z8) (DpAll.one h5' h6 h7 sl1 gq)
                        have V9 := V8.yz (i := k1) ga
                        have V10 := V9.yz (i := k2) (Dp.same yaz gb)
                        have V11 := V10.yz (i := k3) (Dp.same yaz (Dp.same yaz gT))
                        have hs8 : ((σ8.set k1 (some u)).set k2 (some v)).set k3 (some (.ref T)) = σ8 := by rw [← hσ8, set3]
                        rw [hs8] at V11
                        obtain ⟨a', b', ls', hde, t4e, t5e⟩ := htests _ hmem
                        cases hde
                        refine wZ V11 t4e (fun er z => by cases z) fun b4 H6 eb4 s6 V12 => ?_
                        cases eb4
                        rw [if_neg Bool.false_ne_true]
                        refine wZ V12 t5e (fun er z => by cases z) fun b5 H7 eb5 s7 V13 => ?_
                        cases eb5
                        rw [if_neg Bool.false_ne_true]
                        have s67 := s6.trans s7
                        have J10 := J8.zu s67
                        have e8k : σ8[k3]? = some (some (.ref T)) := by rw [← hσ8, List.getElem?_set, if_pos rfl, if_pos (by rw [List.length_set, List.length_set, l2]; exact hl3)]
                        have hat : atI ys ((kx : Nat) : Int) = some (.ref qn) := by
                          have hlt := (List.getElem?_eq_some_iff.mp h6).1
                          unfold atI ixN
                          rw [if_pos (Int.natCast_nonneg _), if_pos (by omega), Int.toNat_natCast]
                          exact h6
                        have hT : SqT X.K H7 T ys := SqT.same s67.d (SqT.same kf (SqT.view (Z2 := Zo Zq σ8 ρ3) h4' htk z8))
                        refine ⟨.ref T, e8k, T, ys, ((kx : Nat) : Int), .ref qn, rfl, rfl, hT, hat, .inl ⟨rfl, zs, .inl (.inl (s67.at hq''))⟩, qK (f := eC c4) J10.di rfl (fun er z => by cases z) fun v9 y9 H8 ev9 s8 hv9 I9 => ?_⟩
                        have s78 := s67.trans s8
                        have hq8 := s78.at hq''
                        have hzl := h9.length
                        have hbd := kA sline
                        refine ⟨qn, zs, y9, rfl, rfl, hq8, by omega, some u, some v, some (.ref T), hσ8.symm, (J10.zu s8).jbf (.inr hSq) (hS0 qn hSq) hq8, by rw [upd_ne (Ne.symm ne)]; exact s78.at hp', (htk.same s78).jbf hq8, fun j' q' zs' hj' hq' hz' => ?_⟩
                        have hnq : q' ≠ qn := fun z => by
                          rw [z] at hq'
                          obtain ⟨l1, e1⟩ := List.getElem?_eq_some_iff.mp hq'
                          obtain ⟨l2, e2⟩ := List.getElem?_eq_some_iff.mp hqt
                          exact List.pairwise_iff_getElem.mp qnd t j' l2 l1 (by omega) (e2.trans e1.symm)
                        rw [upd_ne hnq]
                        exact s78.at (hlive j' q' zs' (by omega) hq' hz')
                      · have het : t = xs.length := by omega
                        refine .inl ⟨⟨xs, .inl (.inl hp'), by omega⟩, ⟨.ref p, ei, .inl ⟨rfl, xs, .inl (.inl hp')⟩, qK (f := eC c5) I'.di rfl (fun er z => by cases z) fun v y H8 ev s8 hv I9 => ?_⟩⟩
                        have hp8 := s8.at hp'
                        refine ⟨p, xs, y, rfl, rfl, hp8, ?_, H0, Z, ρ3, o, ((I'.zu s8).jbf (.inr hSp) (hS0 p hSp) hp8).less fun a h => .inl h, e, q⟩
                        have := kA hline
                        omega
                    · cases e
                  · cases e
                · cases e
              · cases e
            · cases e
          · cases e
        · cases e
      · cases e
    · cases e
  · cases e
end
end DL
namespace FN
open PySem PySem.Spec PyProof.Rows L2 DL
noncomputable section
def q0 : FS := yb (yc 2 (jg (ya))) (yb (qz (wi (qa (e2 xb (eC (.int 1)) (wc FN.je 3 (qa (eV 0) (qa (eV 1) (qa (eC (.int 7)) (ya)))))) (ya))) (gN 3) (yb (yc 4 (e2 xb (e2 xb (eV 1) (eC (.int 1))) (e2 jq (eC (.int 18)) (eV 3)))) (yb (yc 5 (wc FN.je 3 (qa (eV 0) (qa (eV 4) (qa (eC (.int 6)) (ya)))))) (qg (tV (e2 jz (eV 5) (eC (.int 4)))) (yb (yc 6 (e2 xb (e2 xb (jg (qa (eC (.int 0)) (ya))) (wc FN.vy 1 (qa (wc FN.kB 1 (qa (wc FN.kM 2 (qa (eV 0) (qa (e2 xb (eV 4) (eC (.int 2))) (ya)))) (ya))) (ya)))) (jg (qa (eC (.int 0)) (ya))))) (yb (yc 7 (wc FN.je 3 (qa (eV 0) (qa (e2 xb (eV 4) (eC (.int 1))) (qa (eG xg (qa (eV 6) (ya))) (ya)))))) (yb (qg (tV (e2 qu (eV 5) (eC (.int 1)))) (yc 6 (e2 xb (jm (eV 6) (jj) (ve (eV 7))) (jm (eV 6) (ve (e2 xb (eV 7) (eC (.int 1)))) (jj)))) (qh)) (yb (qg (tV (e2 qu (eV 5) (eC (.int 2)))) (yc 6 (e2 xb (e2 xb (jm (eV 6) (jj) (ve (eV 7))) (jg (qa (wc FN.je 3 (qa (eV 0) (qa (eV 4) (qa (eC (.int 256)) (ya))))) (ya)))) (jm (eV 6) (ve (e2 xb (eV 7) (eC (.int 1)))) (jj)))) (qh)) (yb (qg (tV (e2 qu (eV 5) (eC (.int 3)))) (yc 6 (jm (eV 6) (ve (eC (.int 1))) (jj))) (qh)) (yc 2 (e2 xb (eV 2) (eV 6)))))))) (yb (yc 8 (e2 yg (jg (qa (eC (.int 2)) (qa (eC (.int 256)) (ya)))) (wc FN.je 3 (qa (eV 0) (qa (e2 xb (eV 4) (eC (.int 1))) (qa (eC (.int 2)) (ya))))))) (yc 2 (e2 xb (eV 2) (zz [9] (wF 9) (wi (qa (wc FN.je 3 (qa (eV 0) (qa (e2 xb (eV 4) (eC (.int 1))) (qa (eC (.int 9)) (ya))))) (ya))) (fun _ => some (.ok true)) (wc FN.je 3 (qa (eV 0) (qa (e2 xb (e2 xb (eV 4) (eC (.int 2))) (eV 9)) (qa (eV 8) (ya))))))))))))) (ji (eV 2)))
def kZ : DF := wC 2 10 q0
def wac : jc → Option (List D) := ybJ 8 1 4 2 3 (jg (ya)) (yM (wc FN.qaj 1 (qa (eV 0) (ya)))) (gT 2 (qe 2 (qe 3 (ju)))) (qa (wc FN.xp 1 (qa (jm (eV 0) (ve (eV 2)) (ve (eV 3))) (ya))) (ya)) FN.xB (qaK (mxL [(1, true), (2, true), (3, true), (4, true), (5, true), (6, true), (7, true), (8, true), (9, true), (10, true), (11, true), (12, true), (13, true), (14, true), (15, true)]) (fCt) (ybG))
def zap : TF := mkT 1 5 wac
def vac : DF := tfD zap
def vK : FS := yb (yc 1 (jg (ya))) (yb (yc 2 (eC (.int 0))) (yb (yc 3 (eC (.int 255))) (yb (qz (wi (qa (eG xg (qa (eV 0) (ya))) (ya))) (gN 4) (qg (tV (e2 jz (eV 2) (eG xg (qa (eV 0) (ya))))) (yb (yc 3 (e2 yg (eV 0) (eV 2))) (yb (qg (tV (e2 wz (e2 xb (eV 2) (eV 3)) (eG xg (qa (eV 0) (ya))))) (ji (eC .none)) (qh)) (yb (yc 1 (e2 xb (eV 1) (jm (eV 0) (ve (e2 xb (eV 2) (eC (.int 1)))) (ve (e2 xb (eV 2) (eV 3)))))) (yb (qg (tV (e2 jz (eV 3) (eC (.int 255)))) (yc 1 (e2 xb (eV 1) (jg (qa (eC (.int 0)) (ya))))) (qh)) (yc 2 (e2 xb (eV 2) (eV 3))))))) (qh))) (yb (qg (tV (e2 qu (eV 3) (eC (.int 255)))) (ji (eC .none)) (qh)) (ji (jm (eV 1) (jj) (ve (e1 xa2 (eC (.int 1))))))))))
def yq : DF := wC 1 5 vK
def xZ : FS := yb (qg (zB (tV (e2 jz (eG xg (qa (eV 0) (ya))) (eC (.int 9)))) (tV (e2 wz (e2 yg (eV 0) (eC (.int 0))) (eC (.int 4))))) (ji (eC .none)) (qh)) (yb (zS 1 (e2 xb (jg (qa (e2 yg (eV 0) (eC (.int 0))) (ya))) (zz [3] (wF 3) (wi (qa (eC (.int 2)) (ya))) (fun _ => some (.ok true)) (eG qbf (qa (zz [2] (wF 2) (wi (qa (eC (.int 4)) (ya))) (fun _ => some (.ok true)) (e2 zV (e2 yg (eV 0) (e2 xb (e2 xb (eC (.int 1)) (e2 jq (eC (.int 4)) (eV 3))) (eV 2))) (e2 jq (eC (.int 8)) (eV 2)))) (ya)))))) (yb (yc 4 (eC (.int 9))) (yb (qz (yM (jg (qa (eC (.int 16)) (qa (eC (.int 16777216)) (qa (eC (.int 1099511627776)) (qa (eC (.int 16777216)) (ya))))))) (gN 5) (yb (yc 6 (wc FN.vx 3 (qa (eV 0) (qa (eV 4) (qa (eV 5) (ya)))))) (yb (qg (tV (e2 wV (eV 6) (eC .none))) (ji (eC .none)) (qh)) (yb (xF 1 (e2 yg (eV 6) (eC (.int 0)))) (yc 4 (e2 yg (eV 6) (eC (.int 1)))))))) (yb (qg (zB (tV (e2 vO (eV 4) (eG xg (qa (eV 0) (ya))))) (tV (e2 wz (e2 yg (eV 0) (eV 4)) (eC (.int 1))))) (ji (eC .none)) (qh)) (yb (yc 6 (wc FN.vx 3 (qa (eV 0) (qa (e2 xb (eV 4) (eC (.int 1))) (qa (eC (.int 1025)) (ya)))))) (yb (qg (zB (tV (e2 wV (eV 6) (eC .none))) (tV (e2 gNe (eG xg (qa (eV 0) (ya))) (e2 xb (e2 xb (e2 yg (eV 6) (eC (.int 1))) (e2 yg (eV 6) (eC (.int 0)))) (eC (.int 4)))))) (ji (eC .none)) (qh)) (yb (yc 7 (e2 xb (e2 yg (eV 6) (eC (.int 1))) (e2 yg (eV 6) (eC (.int 0))))) (yb (qg (tV (e2 gNe (eG qbf (qa (zz [2] (wF 2) (wi (qa (eC (.int 4)) (ya))) (fun _ => some (.ok true)) (e2 zV (e2 yg (eV 0) (e2 xb (eV 7) (eV 2))) (e2 jq (eC (.int 8)) (eV 2)))) (ya))) (wc FN.zD 1 (qa (jm (eV 0) (jj) (ve (eV 7))) (ya))))) (ji (eC .none)) (qh)) (ji (eG vbh (qa (e2 xb (eV 1) (jg (qa (e2 yg (eV 0) (eV 4)) (qa (jm (eV 0) (ve (e2 yg (eV 6) (eC (.int 1)))) (ve (eV 7))) (ya))))) (ya))))))))))))
def zP : DF := wC 1 8 xZ
def yae : FS := yb (zS 1 (jg (ya))) (yb (yc 2 (zz [3] (wF 3) (wi (qa (eG xg (qa (eV 0) (ya))) (ya))) (tV (e2 qu (e2 yg (eV 0) (eV 3)) (eC (.int 0)))) (eV 3))) (yb (qz (wi (qa (e2 gSub (eG xg (qa (eV 2) (ya))) (eC (.int 1))) (ya))) (gN 3) (yb (yc 4 (e2 xb (e2 yg (eV 2) (eV 3)) (eC (.int 1)))) (yb (yc 5 (e2 yg (eV 2) (e2 xb (eV 3) (eC (.int 1))))) (qg (tV (e2 jz (eV 4) (eV 5))) (yb (yc 6 (wc FN.yq 1 (qa (jm (eV 0) (ve (eV 4)) (ve (eV 5))) (ya)))) (qg (tV (e2 xaI (eV 6) (eC .none))) (yb (yc 7 (wc FN.zP 1 (qa (eV 6) (ya)))) (qg (tV (e2 xaI (eV 7) (eC .none))) (xF 1 (yF (qa (eV 4) (qa (eV 5) (qa (eV 7) (ya)))))) (qh))) (qh))) (qh))))) (ji (eV 1))))
def vae : DF := wC 1 8 yae
def vby : FS := yb (yc 1 (wc FN.qae 1 (qa (eV 0) (ya)))) (yb (yc 2 (wc FN.kZ 2 (qa (eV 1) (qa (eC (.int 0)) (ya))))) (yb (yc 3 (eG xbF (qa (eV 2) (ya)))) (za4 4 5 6 7 8 8 FN.zap 1 (qa (eV 2) (ya)) (wc FN.vae 1 (qa (eV 3) (ya))) (zB (vaw (tV (e1 (zbf "list") (eV 4)))) (zB (tV (e2 gNe (eV 4) (eV 5))) (tV (e2 gNe (eV 2) (eV 3))))) (zB (vaw (tV (e1 (zbf "tuple") (eV 8)))) (vaw (tV (e1 (zbf "list") (e2 yg (eV 8) (eC (.int 8))))))) (tV (e2 gNe (wc FN.vac 1 (qa (e2 xb (e2 xb (jg (qa (eC (.int 0)) (ya))) (jm (eV 3) (ve (eV 6)) (ve (eV 7)))) (jg (qa (eC (.int 0)) (ya)))) (ya))) (jg (qa (yF (qa (eC (.int 1)) (qa (e2 gSub (e2 xb (eC (.int 1)) (eV 7)) (eV 6)) (qa (eV 8) (ya))))) (ya))))) (ji (e2 qu (wc FN.vac 1 (qa (eV 2) (ya))) (eV 5))))))
def yap : DF := wC 1 9 vby
end
end FN
namespace K44
open PySem PySem.Spec PyProof.Rows L2 DL
open FN (zX)
def qA (i : Nat) : Stmt := PySem.Challenge.pw_spoolbox_k44_what_stands_in_a_row.main.body.getD i (.Pass ⟨0, 0, 0, 0⟩)
abbrev xQ : Stmt := qA 50
theorem qB : FnScope ["script", "draws", "k", "rest", "turn", "mixed"] ["script"] (defScope xQ) := ⟨rfl, rfl, rfl, by decide +kernel, rfl, by decide +kernel, by decide +kernel⟩
abbrev kac : Stmt := qA 51
theorem jcg : FnScope ["draws", "k", "many"] ["draws", "k", "many"] (defScope kac) := ⟨rfl, rfl, rfl, by decide +kernel, rfl, by decide +kernel, by decide +kernel⟩
abbrev vH : Stmt := qA 55
theorem zA : FnScope ["row", "out", "block", "byte"] ["row"] (defScope vH) := ⟨rfl, rfl, rfl, by decide +kernel, rfl, by decide +kernel, by decide +kernel⟩
abbrev wJ : Stmt := qA 53
theorem qL : FnScope ["number", "out", "k", "byte"] ["number"] (defScope wJ) := ⟨rfl, rfl, rfl, by decide +kernel, rfl, by decide +kernel, by decide +kernel⟩
abbrev kQ : Stmt := qA 54
theorem zF : FnScope ["row", "rest", "byte", "k", "low"] ["row"] (defScope kQ) := ⟨rfl, rfl, rfl, by decide +kernel, rfl, by decide +kernel, by decide +kernel⟩
abbrev xy : Stmt := qA 58
theorem zg : FnScope ["leaf", "kind", "stamp", "number", "track", "ordinal", "time", "span", "key", "body", "out", "word", "k", "field"] ["leaf"] (defScope xy) := ⟨rfl, rfl, rfl, by decide +kernel, rfl, by decide +kernel, by decide +kernel⟩
abbrev wU : Stmt := qA 57
theorem ja7 : FnScope ["draws", "k", "bits", "number"] ["draws", "k", "bits"] (defScope wU) := ⟨rfl, rfl, rfl, by decide +kernel, rfl, by decide +kernel, by decide +kernel⟩
abbrev jN : Stmt := qA 56
theorem kq : FnScope ["draws", "k", "kind", "stamp", "number", "track", "ordinal", "time", "span", "size", "body", "n"] ["draws", "k"] (defScope jN) := ⟨rfl, rfl, rfl, by decide +kernel, rfl, by decide +kernel, by decide +kernel⟩
abbrev jC : Stmt := qA 63
theorem qj : FnScope ["draws", "k", "row", "n", "at", "word", "piece", "place", "menu", "j"] ["draws", "k"] (defScope jC) := ⟨rfl, rfl, rfl, by decide +kernel, rfl, by decide +kernel, by decide +kernel⟩
abbrev yY : Stmt := qA 46
theorem xY : FnScope ["row", "zeros", "at", "byte", "before", "after"] ["row"] (defScope yY) := ⟨rfl, rfl, rfl, by decide +kernel, rfl, by decide +kernel, by decide +kernel⟩
abbrev vU : Stmt := qA 27
theorem vbP : FnScope ["row"] ["row"] (defScope vU) := ⟨rfl, rfl, rfl, by decide +kernel, rfl, by decide +kernel, by decide +kernel⟩
abbrev zR : Stmt := qA 38
theorem kbz : FnScope ["writing"] ["writing"] (defScope zR) := ⟨rfl, rfl, rfl, by decide +kernel, rfl, by decide +kernel, by decide +kernel⟩
abbrev yH : Stmt := qA 21
theorem yaJ : FnScope ["row", "at", "place"] ["row", "at"] (defScope yH) := ⟨rfl, rfl, rfl, by decide +kernel, rfl, by decide +kernel, by decide +kernel⟩
abbrev yU : Stmt := qA 20
theorem kY : FnScope ["row", "at", "stop", "number", "place"] ["row", "at"] (defScope yU) := ⟨rfl, rfl, rfl, by decide +kernel, rfl, by decide +kernel, by decide +kernel⟩
abbrev jR : Stmt := qA 41
theorem vat : FnScope ["row", "at", "top", "number", "stop"] ["row", "at", "top"] (defScope jR) := ⟨rfl, rfl, rfl, by decide +kernel, rfl, by decide +kernel, by decide +kernel⟩
abbrev wR : Stmt := qA 39
theorem yw : FnScope ["writing", "track", "track_stop", "ordinal", "ordinal_stop", "time", "time_stop", "span", "span_stop"] ["writing"] (defScope wR) := ⟨rfl, rfl, rfl, by decide +kernel, rfl, by decide +kernel, by decide +kernel⟩
abbrev xU : Stmt := qA 40
theorem yaE : FnScope ["writing", "at", "size", "start"] ["writing", "at"] (defScope xU) := ⟨rfl, rfl, rfl, by decide +kernel, rfl, by decide +kernel, by decide +kernel⟩
abbrev vR : Stmt := qA 26
theorem qbA : FnScope ["number"] ["number"] (defScope vR) := ⟨rfl, rfl, rfl, by decide +kernel, rfl, by decide +kernel, by decide +kernel⟩
abbrev zL : Stmt := qA 25
theorem xH : FnScope ["total", "row", "remainder", "byte"] ["total", "row"] (defScope zL) := ⟨rfl, rfl, rfl, by decide +kernel, rfl, by decide +kernel, by decide +kernel⟩
abbrev j5 : Stmt := qA 24
theorem ybZ : FnScope ["row"] ["row"] (defScope j5) := ⟨rfl, rfl, rfl, by decide +kernel, rfl, by decide +kernel, by decide +kernel⟩
abbrev kU : Stmt := qA 37
theorem zr : FnScope ["writing", "kind", "stamp", "number", "track", "ordinal", "time", "span", "at", "key", "body", "stop"] ["writing"] (defScope kU) := ⟨rfl, rfl, rfl, by decide +kernel, rfl, by decide +kernel, by decide +kernel⟩
abbrev qad : Stmt := qA 44
theorem jah : FnScope ["piece", "row", "at", "size"] ["piece"] (defScope qad) := ⟨rfl, rfl, rfl, by decide +kernel, rfl, by decide +kernel, by decide +kernel⟩
abbrev zad : Stmt := qA 48
theorem xax : FnScope ["row", "finds", "start", "stop", "leaf"] ["row"] (defScope zad) := ⟨rfl, rfl, rfl, by decide +kernel, rfl, by decide +kernel, by decide +kernel⟩
abbrev jL : Stmt := qA 61
theorem qv : FnScope ["piece", "out", "at", "last", "k"] ["piece"] (defScope jL) := ⟨rfl, rfl, rfl, by decide +kernel, rfl, by decide +kernel, by decide +kernel⟩
abbrev wL : Stmt := qA 59
theorem w5 : FnScope ["row", "at", "bound", "number", "k"] ["row", "at", "bound"] (defScope wL) := ⟨rfl, rfl, rfl, by decide +kernel, rfl, by decide +kernel, by decide +kernel⟩
abbrev ky : Stmt := qA 60
theorem wj : FnScope ["row", "fields", "k", "j", "at", "bound", "told", "stop"] ["row"] (defScope ky) := ⟨rfl, rfl, rfl, by decide +kernel, rfl, by decide +kernel, by decide +kernel⟩
abbrev vJ : Stmt := qA 62
theorem xw : FnScope ["row", "out", "zeros", "k", "start", "stop", "writing", "leaf"] ["row"] (defScope vJ) := ⟨rfl, rfl, rfl, by decide +kernel, rfl, by decide +kernel, by decide +kernel⟩
abbrev xbb : Stmt := qA 64
theorem wa7 : FnScope ["script", "draws", "row", "kept", "told", "due", "start", "stop", "leaf"] ["script"] (defScope xbb) := ⟨rfl, rfl, rfl, by decide +kernel, rfl, by decide +kernel, by decide +kernel⟩
abbrev xaR : Stmt := inClass (qA 1) 0
theorem vcY : FnScope ["self", "at"] ["self", "at"] (defScope xaR) := ⟨rfl, rfl, rfl, by decide +kernel, rfl, by decide +kernel, by decide +kernel⟩
structure Txt (K : PySem.W.Frag) (mg : Str → Option Value) (Cl : Nat → Addr) where
  xaE : Addr
  yat : FuncData
  va7 : Fun K "_law_draws" "_law_draws" xQ xaE yat
  ybP : mg "_law_draws" = some (.ref xaE)
  zae : Binds K yat ["script"] []
  ya7 : Addr
  yaZ : FuncData
  xm : Fun K "_law_at" "_law_at" kac ya7 yaZ
  xn : mg "_law_at" = some (.ref ya7)
  yk : Binds K yaZ ["draws", "k", "many"] []
  jal : Addr
  wah : FuncData
  kaR : Fun K "_law_stuffed" "_law_stuffed" vH jal wah
  xbr : mg "_law_stuffed" = some (.ref jal)
  z0 : Binds K wah ["row"] []
  kaE : Addr
  xat : FuncData
  qaF : Fun K "_law_steps" "_law_steps" wJ kaE xat
  xa7 : mg "_law_steps" = some (.ref kaE)
  wX : Binds K xat ["number"] []
  zaF : Addr
  kat : FuncData
  jaF : Fun K "_law_check" "_law_check" kQ zaF kat
  ka7 : mg "_law_check" = some (.ref zaF)
  jX : Binds K kat ["row"] []
  wal : Addr
  vah : FuncData
  qaS : Fun K "_law_writing" "_law_writing" xy wal vah
  kbr : mg "_law_writing" = some (.ref wal)
  j1 : Binds K vah ["leaf"] []
  vaO : Addr
  waF : FuncData
  qV : Fun K "_law_wide" "_law_wide" wU vaO waF
  w9 : mg "_law_wide" = some (.ref vaO)
  qH : Binds K waF ["draws", "k", "bits"] []
  yaO : Addr
  vaF : FuncData
  qbd : Fun K "_law_leaf" "_law_leaf" jN yaO vaF
  xbZ : mg "_law_leaf" = some (.ref yaO)
  zan : Binds K vaF ["draws", "k"] []
  yal : Addr
  yah : FuncData
  zaS : Fun K "_law_any_row" "_law_any_row" jC yal yah
  qbs : mg "_law_any_row" = some (.ref yal)
  q0 : Binds K yah ["draws", "k"] []
  ybg : Addr
  qa8 : FuncData
  xbP : Fun K "places" "places" yY ybg qa8
  vcE : mg "places" = some (.ref ybg)
  vaU : Binds K qa8 ["row"] []
  xaO : Addr
  yaF : FuncData
  kaO : Fun K "number_of" "number_of" vU xaO yaF
  zbd : mg "number_of" = some (.ref xaO)
  j7 : Binds K yaF ["row"] []
  xaF : Addr
  qau : FuncData
  za8 : Fun K "read_front" "read_front" zR xaF qau
  kbP : mg "read_front" = some (.ref xaF)
  zI : Binds K qau ["writing"] []
  xal : Addr
  xah : FuncData
  jaS : Fun K "end_of_steps" "end_of_steps" yH xal xah
  zbs : mg "end_of_steps" = some (.ref xal)
  zH : Binds K xah ["row", "at"] []
  qaP : Addr
  kaF : FuncData
  jbd : Fun K "get_steps" "get_steps" yU qaP kaF
  kbZ : mg "get_steps" = some (.ref qaP)
  kG : Binds K kaF ["row", "at"] []
  qaG : Addr
  zau : FuncData
  yR : Fun K "step_up_to" "step_up_to" jR qaG zau
  qZ : mg "step_up_to" = some (.ref qaG)
  jw : Binds K zau ["row", "at", "top"] []
  zaG : Addr
  jau : FuncData
  ja8 : Fun K "read_place" "read_place" wR zaG jau
  qbQ : mg "read_place" = some (.ref zaG)
  qaf : Binds K jau ["writing"] []
  zaP : Addr
  jaG : FuncData
  wbd : Fun K "read_body" "read_body" xU zaP jaG
  qb0 : mg "read_body" = some (.ref zaP)
  qan : Binds K jaG ["writing", "at"] []
  waG : Addr
  wau : FuncData
  wa8 : Fun K "four_bytes" "four_bytes" vR waG wau
  zbQ : mg "four_bytes" = some (.ref waG)
  xae : Binds K wau ["number"] []
  vau : Addr
  kal : FuncData
  ya0 : Fun K "checksum_on" "checksum_on" zL vau kal
  zbA : mg "checksum_on" = some (.ref vau)
  waa : Binds K kal ["total", "row"] []
  xaZ : Addr
  jaP : FuncData
  kbl : Fun K "checksum" "checksum" j5 xaZ jaP
  wcg : mg "checksum" = some (.ref xaZ)
  yaU : Binds K jaP ["row"] []
  waP : Addr
  vaG : FuncData
  vbd : Fun K "read_leaf" "read_leaf" kU waP vaG
  zb0 : mg "read_leaf" = some (.ref waP)
  xbc : Binds K vaG ["writing"] []
  va8 : Addr
  kaZ : FuncData
  kby : Fun K "unstuff" "unstuff" qad va8 kaZ
  qcv : mg "unstuff" = some (.ref va8)
  jap : Binds K kaZ ["piece"] []
  xaJ : Addr
  kax : FuncData
  kaJ : Fun K "salvage" "salvage" zad xaJ kax
  ya8 : mg "salvage" = some (.ref xaJ)
  wac : Binds K kax ["row"] []
  yau : Addr
  qam : FuncData
  xa0 : Fun K "_law_row_of" "_law_row_of" jL yau qam
  jbA : mg "_law_row_of" = some (.ref yau)
  vK : Binds K qam ["piece"] []
  xau : Addr
  zam : FuncData
  kau : Fun K "_law_number" "_law_number" wL xau zam
  ka0 : mg "_law_number" = some (.ref xau)
  kaq : Binds K zam ["row", "at", "bound"] []
  jam : Addr
  kah : FuncData
  waS : Fun K "_law_leaf_of" "_law_leaf_of" ky jam kah
  jbs : mg "_law_leaf_of" = some (.ref jam)
  xZ : Binds K kah ["row"] []
  yaG : Addr
  qav : FuncData
  xa8 : Fun K "_law_finds" "_law_finds" vJ yaG qav
  jbQ : mg "_law_finds" = some (.ref yaG)
  yae : Binds K qav ["row"] []
  vcg : Addr
  qbm : FuncData
  qdd : Fun K "law" "law" xbb vcg qbm
  zdS : mg "law" = some (.ref vcg)
  jdS : Binds K qbm ["script"] []
  zq : mg "range" = none
  vbl : mg "min" = none
  jr : mg "len" = none
  ybl : mg "abs" = none
  vaa : mg "int" = none
  v7 : mg "enumerate" = none
  xbl : mg "zip" = none
  ybb : mg "sum" = none
  jaz : mg "tuple" = none
  qaB : mg "list" = none
  jI : mg "isinstance" = none
  ycg : Tok
  zdd : mg "END" = some (.int 4 ycg)
  wbs : Tok
  kbb : mg "FRONT" = some (.int 9 wbs)
  xaG : Tok
  ka8 : mg "MOST_STEPS" = some (.int 6 xaG)
  kaG : Tok
  wbQ : mg "STEP_LIMIT" = some (.int 1099511627776 kaG)
  vaP : Tok
  jb0 : mg "TOP_TRACK" = some (.int 15 vaP)
  zav : Tok
  wbA : mg "TOP_ORDINAL" = some (.int 16777215 zav)
  qa0 : Tok
  xcg : mg "TOP_TIME" = some (.int 1099511627775 qa0)
  za0 : Tok
  kcg : mg "TOP_SPAN" = some (.int 16777215 za0)
  ja0 : Tok
  qch : mg "TOP_BODY" = some (.int 1024 ja0)
  qaH : Addr
  vbQ : mg "HALVES" = some (.ref qaH)
  ybQ : ∀ H, DL.Dp K H (.ref qaH) zX
  qa9 : Tok
  zcv : mg "TOP_KEY" = some (.int 1 qa9)
  xbQ : Tok
  zc8 : mg "FULL" = some (.int 255 xbQ)
  xD : Addr
  kcb : FuncData
  jA : InT K "SpoolboxError.__init__" xaR xD kcb
  jcv : ExT K mg "BadKind" (Cl 5) xD
  zch : ExT K mg "BadStamp" (Cl 6) xD
  wb0 : ExT K mg "BadNumber" (Cl 7) xD
  vb0 : ExT K mg "Truncated" (Cl 3) xD
  kbQ : ExT K mg "OutOfRange" (Cl 1) xD
  vbA : ExT K mg "LooseNumber" (Cl 2) xD
  jch : ExT K mg "BadTrack" (Cl 8) xD
  qbR : ExT K mg "BadOrdinal" (Cl 9) xD
  wcv : ExT K mg "BadTime" (Cl 10) xD
  vcv : ExT K mg "BadSpan" (Cl 11) xD
  ycv : ExT K mg "BadSize" (Cl 13) xD
  yb0 : ExT K mg "ShortBody" (Cl 14) xD
  ycE : ExT K mg "BadKey" (Cl 12) xD
  wch : ExT K mg "BadCheck" (Cl 15) xD
  qab : ExT K mg "BadStuffing" (Cl 4) xD
  zbR : mg "Truncated" = some (.ref (Cl 3))
  ybA : mg "OutOfRange" = some (.ref (Cl 1))
  vbs : mg "LooseNumber" = some (.ref (Cl 2))
  xbg : mg "SpoolboxError" = some (.ref (Cl 0))
  za9 : ErF K (Cl 3)
  vaS : ErF K (Cl 2)
  qa1 : ErF K (Cl 1)
  xb0 : ErF K (Cl 15)
  jbR : ErF K (Cl 14)
  vch : ErF K (Cl 13)
  xcv : ErF K (Cl 12)
  ych : ErF K (Cl 11)
  xch : ErF K (Cl 10)
  xbA : ErF K (Cl 9)
  kb0 : ErF K (Cl 8)
  wbR : ErF K (Cl 7)
  qb1 : ErF K (Cl 6)
  kch : ErF K (Cl 5)
  ybs : ErF K (Cl 4)
  yaP : PySem.W.exmOne K (.ref (Cl 3)) (.ref (Cl 3)) = some true
  jaI : PySem.W.exmOne K (.ref (Cl 3)) (.ref (Cl 1)) = some false
  zaH : PySem.W.exmOne K (.ref (Cl 3)) (.ref (Cl 2)) = some false
  jaH : PySem.W.exmOne K (.ref (Cl 2)) (.ref (Cl 3)) = some false
  qay : PySem.W.exmOne K (.ref (Cl 2)) (.ref (Cl 1)) = some false
  jav : PySem.W.exmOne K (.ref (Cl 2)) (.ref (Cl 2)) = some true
  waI : PySem.W.exmOne K (.ref (Cl 1)) (.ref (Cl 3)) = some false
  waH : PySem.W.exmOne K (.ref (Cl 1)) (.ref (Cl 1)) = some true
  zay : PySem.W.exmOne K (.ref (Cl 1)) (.ref (Cl 2)) = some false
  jay : PySem.W.exmOne K (.ref (Cl 15)) (.ref (Cl 0)) = some true
  wav : PySem.W.exmOne K (.ref (Cl 14)) (.ref (Cl 0)) = some true
  vaH : PySem.W.exmOne K (.ref (Cl 13)) (.ref (Cl 0)) = some true
  vaI : PySem.W.exmOne K (.ref (Cl 12)) (.ref (Cl 0)) = some true
  yaH : PySem.W.exmOne K (.ref (Cl 11)) (.ref (Cl 0)) = some true
  xaH : PySem.W.exmOne K (.ref (Cl 10)) (.ref (Cl 0)) = some true
  zaq : PySem.W.exmOne K (.ref (Cl 9)) (.ref (Cl 0)) = some true
  vay : PySem.W.exmOne K (.ref (Cl 8)) (.ref (Cl 0)) = some true
  vav : PySem.W.exmOne K (.ref (Cl 7)) (.ref (Cl 0)) = some true
  yay : PySem.W.exmOne K (.ref (Cl 6)) (.ref (Cl 0)) = some true
  kaH : PySem.W.exmOne K (.ref (Cl 5)) (.ref (Cl 0)) = some true
  wam : PySem.W.exmOne K (.ref (Cl 4)) (.ref (Cl 0)) = some true
  yav : PySem.W.exmOne K (.ref (Cl 3)) (.ref (Cl 0)) = some true
  vam : PySem.W.exmOne K (.ref (Cl 2)) (.ref (Cl 0)) = some true
  jaq : PySem.W.exmOne K (.ref (Cl 1)) (.ref (Cl 0)) = some true
section
variable {P : Program} {w : World} {K : PySem.W.Frag} {mg : Str → Option Value} {base : Heap} {Cl : Nat → Addr}
theorem yam (T : Txt K mg Cl) : FnOk P w K mg base (L2.CX P w) 1 T.xD T.kcb ["self", "at"] (qc3 K) := by
  refine T.jA.F.okX vcY (fun vs H Q E ⟨a, C, y, e, _⟩ => by rw [e]; rfl) fun cdv A outer s H vs Q E hr h => ?_
  obtain ⟨a, C, y, rfl, h1, h2, h3, q⟩ := h
  refine ⟨_, pss_one (ps_ost (pv 0) (pv 1)), ?_⟩
  exact ⟨y, rfl, .ref a, rfl, a, C, rfl, h1, h2, .inl ⟨h3, fun dx n ne => q dx n ne⟩⟩
theorem kbA (T : Txt K mg Cl) : FnOk P w K mg base (L2.CX P w) 1 T.xaE T.yat ["script"] (qE K Cl 1 FN.qae) := by
  refine ko (k := 0) T.va7 qB rfl rfl fun cdv A outer s H E hr => ?_
  refine wO fun tk hp => ?_
  exact kb (waQ (i := 1) qB.nd (zm (wb))) (kb (jF hp rfl (kr T.zq (ja (vi (call_min2 rfl) ycT T.vbl (by decide +kernel) (ja (ka) (ja (vi call_len yp T.jr PySem.boot_len (ja (za (pv 0)) (wb))) (wb)))) (wb))) (wA (i := 2) qB.nd) (kb (we (i := 3) qB.nd (vi call_abs qc0 T.ybl (by decide +kernel) (ja (zk (za (pv 0)) (za (pv 2))) (wb)))) (kc (ki (zf jaA waA (za (pv 3)) (jcZ (ka) (ka)) (nomark _)) (kc (jF hp rfl (kr T.zq (ja (ka) (wb))) (wA (i := 4) qB.nd) (kc (ki (zf yO xO (za (pv 3)) (ka) (nomark _)) (kb (zaA (i := 1) (pe_bm PySem.F.plainAttrs_list PySem.F.slot_list_append PySem.F.type_list_append mt_append (pv 1) (pa_cons (xaz (yG call_int1 zao T.vaa (by decide +kernel) (ja (za (pv 3)) (wb))) (ka)) pa_nil))) (kc (we (i := 3) qB.nd (ycq (za (pv 3)) (ka))))) (zh))))) (kb (we (i := 5) qB.nd (xaz (yG call_int1 zao T.vaa (by decide +kernel) (ja (qd (kH (za (pv 3)) (ka)) (kH (qd (za (pv 2)) (ka)) (ka))) (wb))) (ka))) (kb (we (i := 5) qB.nd (xaz (yG call_int1 zao T.vaa (by decide +kernel) (ja (qd (qd (kH (za (pv 5)) (ka)) (kH (ka) (za (pv 2)))) (ka)) (wb))) (ka))) (kb (zaA (i := 1) (pe_bm PySem.F.plainAttrs_list PySem.F.slot_list_append PySem.F.type_list_append mt_append (pv 1) (pa_cons (xaz (yG call_int1 zao T.vaa (by decide +kernel) (ja (za (pv 5)) (wb))) (ka)) pa_nil))) (kc (zaA (i := 1) (pe_bm PySem.F.plainAttrs_list PySem.F.slot_list_append PySem.F.type_list_append mt_append (pv 1) (pa_cons (xaz (yG call_int1 zao T.vaa (by decide +kernel) (ja (ycq (za (pv 5)) (ka)) (wb))) (ka)) pa_nil))))))))))) (kc (yi (za (pv 1)))))
theorem wa0 (T : Txt K mg Cl) : FnOk P w K mg base (L2.CX P w) 1 T.ya7 T.yaZ ["draws", "k", "many"] (qE K Cl 3 FN.je) := by
  refine ko (k := 0) T.xm jcg rfl rfl fun cdv A outer s H E hr => ?_
  refine wO fun tk hp => ?_
  exact kb (ki (zf qM zM (za (pv 1)) (vi call_len yp T.jr PySem.boot_len (ja (za (pv 0)) (wb))) (nomark _)) (kc (yi (xaz (yG call_int1 zao T.vaa (by decide +kernel) (ja (zk (za (pv 0)) (za (pv 1))) (wb))) (za (pv 2))))) (zh)) (kc (yi (ka)))
theorem zbm (T : Txt K mg Cl) : FnOk P w K mg base (L2.CX P w) 1 T.jal T.wah ["row"] (qE K Cl 1 FN.vy) := by
  refine ko (k := 0) T.kaR zA rfl rfl fun cdv A outer s H E hr => ?_
  refine wO fun tk hp => ?_
  exact kb (we (i := 1) zA.nd (zm (wb))) (kb (we (i := 2) zA.nd (zm (wb))) (kb (jF hp rfl (jao (qd (za (pv 0)) (zm (ja (ka) (wb))))) (wA (i := 3) zA.nd) (kb (ki (zf yO xO (za (pv 3)) (ka) (nomark _)) (kc (we (i := 2) zA.nd (qd (za (pv 2)) (zm (ja (za (pv 3)) (wb)))))) (zh)) (kc (ki (wai (qaa (zf (op_eqD hr.units) kL (za (pv 3)) (ka) (nomark _)) (wW (zf (op_eqD hr.units) kL (vi call_len yp T.jr PySem.boot_len (ja (za (pv 2)) (wb))) (ka) (nomark _))))) (kb (we (i := 1) zA.nd (qd (qd (za (pv 1)) (zm (ja (qd (vi call_len yp T.jr PySem.boot_len (ja (za (pv 2)) (wb))) (ka)) (wb)))) (za (pv 2)))) (kc (we (i := 2) zA.nd (zm (wb))))) (zh))))) (kc (yi (za (pv 1))))))
theorem qbB (T : Txt K mg Cl) : FnOk P w K mg base (L2.CX P w) 1 T.kaE T.xat ["number"] (qE K Cl 1 FN.vP) := by
  refine ko (k := 0) T.qaF qL rfl rfl fun cdv A outer s H E hr => ?_
  refine wO fun tk hp => ?_
  exact kb (waQ (i := 1) qL.nd (zm (wb))) (kb (jF hp rfl (kr T.zq (ja (ka) (wb))) (wA (i := 2) qL.nd) (kc (ki (wai (qaa (zf (op_eqD hr.units) kL (za (pv 2)) (ka) (nomark _)) (wW (zf yO xO (za (pv 0)) (ka) (nomark _))))) (kb (zaA (i := 1) (pe_bm PySem.F.plainAttrs_list PySem.F.slot_list_append PySem.F.type_list_append mt_append (pv 1) (pa_cons (yL (za (pv 0)) (ka)) pa_nil))) (kc (we (i := 0) qL.nd (jW (za (pv 0)) (ka))))) (zh)))) (kc (yi (qd (jaJ (own := [("byte", 3)]) (tg := .Name _ _) rfl qL.nd yaT (jao (vC (za (pv 1)) (zK) (xj (vbH (ka))))) (blkOk_by (own := [("byte", 3)]) (N := ["number", "out", "k", "byte"]) (sc := defScope wJ) (by decide +kernel)) (fun _ _ _ _ _ => pg_name (i := 3) qL.nd rfl (by first | exact Or.inl rfl | exact Or.inr rfl)) (fun _ _ _ _ _ => qac) (fun _ _ _ _ _ => qd (za (pv 3)) (ka))) (vC (za (pv 1)) (xj (vbH (ka))) (zK))))))
theorem za1 (T : Txt K mg Cl) : FnOk P w K mg base (L2.CX P w) 1 T.zaF T.kat ["row"] (qE K Cl 1 FN.zD) := by
  refine ko (k := 0) T.jaF zF rfl rfl fun cdv A outer s H E hr => ?_
  refine wO fun tk hp => ?_
  exact kb (we (i := 1) zF.nd (ka)) (kb (jF hp rfl (jao (za (pv 0))) (wA (i := 2) zF.nd) (kc (jF hp rfl (kr T.zq (ja (ka) (wb))) (wA (i := 3) zF.nd) (kb (we (i := 4) zF.nd (yL (qao (jW (za (pv 2)) (za (pv 3))) (za (pv 1))) (ka))) (kb (we (i := 1) zF.nd (jW (za (pv 1)) (ka))) (kc (ki (zf (op_eqD hr.units) kL (za (pv 4)) (ka) (nomark _)) (kc (we (i := 1) zF.nd (qao (za (pv 1)) (ka)))) (zh)))))))) (kc (yi (qao (za (pv 1)) (ka)))))
theorem jbm (T : Txt K mg Cl) : FnOk P w K mg base (L2.CX P w) 2 T.wal T.vah ["leaf"] (qE K Cl 1 FN.kB) := by
  have ja9 := qbB (P := P) (w := w) (base := base) T
  have qaI := za1 (P := P) (w := w) (base := base) T
  refine ko (k := 1) T.qaS zg rfl rfl fun cdv A outer s H E hr => ?_
  refine wO fun tk hp => ?_
  exact kb (y6 (vW rfl (vh (i := 1) zg.nd (vh (i := 2) zg.nd (vh (i := 3) zg.nd (vh (i := 4) zg.nd (vh (i := 5) zg.nd (vh (i := 6) zg.nd (vh (i := 7) zg.nd (vh (i := 8) zg.nd (vh (i := 9) zg.nd (jO))))))))))) (za (pv 0))) (kb (we (i := 10) zg.nd (zm (ja (za (pv 1)) (wb)))) (kb (jF hp rfl (jao (zm (ja (za (pv 2)) (ja (za (pv 3)) (wb))))) (wA (i := 11) zg.nd) (kc (we (i := 10) zg.nd (qd (za (pv 10)) (jaJ (own := [("k", 12)]) (tg := .Name _ _) rfl zg.nd yaT (kr T.zq (ja (ka) (wb))) (blkOk_by (own := [("k", 12)]) (N := ["leaf", "kind", "stamp", "number", "track", "ordinal", "time", "span", "key", "body", "out", "word", "k", "field"]) (sc := defScope xy) (by decide +kernel)) (fun _ _ _ _ _ => pg_name (i := 12) zg.nd rfl (by first | exact Or.inl rfl | exact Or.inr rfl)) (fun _ _ _ _ _ => qac) (fun _ _ _ _ _ => yL (jW (za (pv 11)) (kH (ka) (za (pv 12)))) (ka))))))) (kb (jF hp rfl (jao (zm (ja (za (pv 4)) (ja (za (pv 5)) (ja (za (pv 6)) (ja (za (pv 7)) (wb))))))) (wA (i := 13) zg.nd) (kc (we (i := 10) zg.nd (qd (za (pv 10)) (ye ja9 tk (hr.mono (by decide)) T.xa7 T.qaF.kp T.wX (ja (za (pv 13)) (wb))))))) (kb (we (i := 10) zg.nd (qd (qd (qd (za (pv 10)) (zm (ja (za (pv 8)) (wb)))) (ye ja9 tk (hr.mono (by decide)) T.xa7 T.qaF.kp T.wX (ja (vi call_len yp T.jr PySem.boot_len (ja (za (pv 9)) (wb))) (wb)))) (za (pv 9)))) (kc (yi (qd (za (pv 10)) (jaJ (own := [("k", 12)]) (tg := .Name _ _) rfl zg.nd yaT (kr T.zq (ja (ka) (wb))) (blkOk_by (own := [("k", 12)]) (N := ["leaf", "kind", "stamp", "number", "track", "ordinal", "time", "span", "key", "body", "out", "word", "k", "field"]) (sc := defScope xy) (by decide +kernel)) (fun _ _ _ _ _ => pg_name (i := 12) zg.nd rfl (by first | exact Or.inl rfl | exact Or.inr rfl)) (fun _ _ _ _ _ => qac) (fun _ _ _ _ _ => yL (jW (ye qaI takes0 (hr.mono (by decide)) T.ka7 T.jaF.kp T.jX (ja (za (pv 10)) (wb))) (kH (ka) (za (pv 12)))) (ka))))))))))
theorem vbR (T : Txt K mg Cl) : FnOk P w K mg base (L2.CX P w) 2 T.vaO T.waF ["draws", "k", "bits"] (qE K Cl 3 FN.yC) := by
  have kl := wa0 (P := P) (w := w) (base := base) T
  refine ko (k := 1) T.qV ja7 rfl rfl fun cdv A outer s H E hr => ?_
  refine wO fun tk hp => ?_
  exact kb (we (i := 3) ja7.nd (qd (qd (ye kl tk (hr.mono (by decide)) T.xn T.xm.kp T.yk (ja (za (pv 0)) (ja (za (pv 1)) (ja (ka) (wb))))) (kH (ka) (ye kl tk (hr.mono (by decide)) T.xn T.xm.kp T.yk (ja (za (pv 0)) (ja (qd (za (pv 1)) (ka)) (ja (ka) (wb))))))) (kH (ka) (ye kl tk (hr.mono (by decide)) T.xn T.xm.kp T.yk (ja (za (pv 0)) (ja (za (pv 1)) (ja (ka) (wb)))))))) (kc (yi (jW (yL (za (pv 3)) (xan (kan (ka) (za (pv 2))) (ka))) (zk (zm (ja (ka) (ja (xan (za (pv 2)) (ka)) (ja (ye kl tk (hr.mono (by decide)) T.xn T.xm.kp T.yk (ja (za (pv 0)) (ja (qd (za (pv 1)) (ka)) (ja (za (pv 2)) (wb))))) (wb))))) (ye kl tk (hr.mono (by decide)) T.xn T.xm.kp T.yk (ja (za (pv 0)) (ja (za (pv 1)) (ja (ka) (wb)))))))))
theorem ybR (T : Txt K mg Cl) : FnOk P w K mg base (L2.CX P w) 3 T.yaO T.vaF ["draws", "k"] (qE K Cl 2 FN.kM) := by
  have kl := wa0 (P := P) (w := w) (base := base) T
  have x9 := vbR (P := P) (w := w) (base := base) T
  refine ko (k := 2) T.qbd kq rfl rfl fun cdv A outer s H E hr => ?_
  refine wO fun tk hp => ?_
  exact kb (we (i := 2) kq.nd (ye kl tk (hr.mono (by decide)) T.xn T.xm.kp T.yk (ja (za (pv 0)) (ja (za (pv 1)) (ja (ka) (wb)))))) (kb (we (i := 3) kq.nd (ye x9 tk (hr.mono (by decide)) T.w9 T.qV.kp T.qH (ja (za (pv 0)) (ja (qd (za (pv 1)) (ka)) (ja (ka) (wb)))))) (kb (we (i := 4) kq.nd (ye x9 tk (hr.mono (by decide)) T.w9 T.qV.kp T.qH (ja (za (pv 0)) (ja (qd (za (pv 1)) (ka)) (ja (ka) (wb)))))) (kb (we (i := 5) kq.nd (ye kl tk (hr.mono (by decide)) T.xn T.xm.kp T.yk (ja (za (pv 0)) (ja (qd (za (pv 1)) (ka)) (ja (ka) (wb)))))) (kb (we (i := 6) kq.nd (ye x9 tk (hr.mono (by decide)) T.w9 T.qV.kp T.qH (ja (za (pv 0)) (ja (qd (za (pv 1)) (ka)) (ja (ka) (wb)))))) (kb (we (i := 7) kq.nd (ye x9 tk (hr.mono (by decide)) T.w9 T.qV.kp T.qH (ja (za (pv 0)) (ja (qd (za (pv 1)) (ka)) (ja (ka) (wb)))))) (kb (we (i := 8) kq.nd (ye x9 tk (hr.mono (by decide)) T.w9 T.qV.kp T.qH (ja (za (pv 0)) (ja (qd (za (pv 1)) (ka)) (ja (ka) (wb)))))) (kb (we (i := 9) kq.nd (ye kl tk (hr.mono (by decide)) T.xn T.xm.kp T.yk (ja (za (pv 0)) (ja (qd (za (pv 1)) (ka)) (ja (ka) (wb)))))) (kb (ki (zf (op_eqD hr.units) kL (ye kl tk (hr.mono (by decide)) T.xn T.xm.kp T.yk (ja (za (pv 0)) (ja (qd (za (pv 1)) (ka)) (ja (ka) (wb))))) (ka) (nomark _)) (kc (we (i := 9) kq.nd (qd (ka) (ye kl tk (hr.mono (by decide)) T.xn T.xm.kp T.yk (ja (za (pv 0)) (ja (qd (za (pv 1)) (ka)) (ja (ka) (wb)))))))) (zh)) (kb (xbf (i := 10) (own := [("n", 11)]) (tg := .Name _ _) rfl kq.nd yaT (kr T.zq (ja (za (pv 9)) (wb))) (blkOk_by (own := [("n", 11)]) (N := ["draws", "k", "kind", "stamp", "number", "track", "ordinal", "time", "span", "size", "body", "n"]) (sc := defScope jN) (by decide +kernel)) (fun _ _ _ _ _ => pg_name (i := 11) kq.nd rfl (by first | exact Or.inl rfl | exact Or.inr rfl)) (fun _ _ _ _ _ => qac) (fun _ _ _ _ _ => yL (yG call_int1 zao T.vaa (by decide +kernel) (ja (qd (ye kl takes0 (hr.mono (by decide)) T.xn T.xm.kp T.yk (ja (za (pv 0)) (ja (qd (za (pv 1)) (ka)) (ja (ka) (wb))))) (kH (za (pv 11)) (za (pv 11)))) (wb))) (zk (zm (ja (ka) (ja (ka) (ja (ka) (wb))))) (xaz (yG call_int1 zao T.vaa (by decide +kernel) (ja (za (pv 11)) (wb))) (ka)))) (sw_true rfl rfl rfl (by decide +kernel))) (kc (yi (qO (ja (za (pv 2)) (ja (za (pv 3)) (ja (za (pv 4)) (ja (za (pv 5)) (ja (za (pv 6)) (ja (za (pv 7)) (ja (za (pv 8)) (ja (ye kl tk (hr.mono (by decide)) T.xn T.xm.kp T.yk (ja (za (pv 0)) (ja (qd (za (pv 1)) (ka)) (ja (ka) (wb))))) (ja (za (pv 10)) (wb))))))))))))))))))))))
theorem wbm (T : Txt K mg Cl) : FnOk P w K mg base (L2.CX P w) 4 T.yal T.yah ["draws", "k"] (qE K Cl 2 FN.kZ) := by
  have kl := wa0 (P := P) (w := w) (base := base) T
  have xbs := zbm (P := P) (w := w) (base := base) T
  have kbs := jbm (P := P) (w := w) (base := base) T
  have zb1 := ybR (P := P) (w := w) (base := base) T
  refine ko (k := 3) T.zaS qj rfl rfl fun cdv A outer s H E hr => ?_
  refine wO fun tk hp => ?_
  exact kb (we (i := 2) qj.nd (zm (wb))) (kb (jF hp rfl (kr T.zq (ja (qd (ka) (ye kl tk (hr.mono (by decide)) T.xn T.xm.kp T.yk (ja (za (pv 0)) (ja (za (pv 1)) (ja (ka) (wb)))))) (wb))) (wA (i := 3) qj.nd) (kb (we (i := 4) qj.nd (qd (qd (za (pv 1)) (ka)) (kH (ka) (za (pv 3))))) (kb (we (i := 5) qj.nd (ye kl tk (hr.mono (by decide)) T.xn T.xm.kp T.yk (ja (za (pv 0)) (ja (za (pv 4)) (ja (ka) (wb)))))) (kc (ki (zf qM zM (za (pv 5)) (ka) (nomark _)) (kb (we (i := 6) qj.nd (qd (qd (zm (ja (ka) (wb))) (ye xbs tk (hr.mono (by decide)) T.xbr T.kaR.kp T.z0 (ja (ye kbs tk (hr.mono (by decide)) T.kbr T.qaS.kp T.j1 (ja (ye zb1 tk (hr.mono (by decide)) T.xbZ T.qbd.kp T.zan (ja (za (pv 0)) (ja (qd (za (pv 4)) (ka)) (wb)))) (wb))) (wb)))) (zm (ja (ka) (wb))))) (kb (we (i := 7) qj.nd (ye kl tk (hr.mono (by decide)) T.xn T.xm.kp T.yk (ja (za (pv 0)) (ja (qd (za (pv 4)) (ka)) (ja (vi call_len yp T.jr PySem.boot_len (ja (za (pv 6)) (wb))) (wb)))))) (kb (ki (zf (op_eqD hr.units) kL (za (pv 5)) (ka) (nomark _)) (kc (we (i := 6) qj.nd (qd (vC (za (pv 6)) (zK) (xj (za (pv 7)))) (vC (za (pv 6)) (xj (qd (za (pv 7)) (ka))) (zK))))) (zh)) (kb (ki (zf (op_eqD hr.units) kL (za (pv 5)) (ka) (nomark _)) (kc (we (i := 6) qj.nd (qd (qd (vC (za (pv 6)) (zK) (xj (za (pv 7)))) (zm (ja (ye kl tk (hr.mono (by decide)) T.xn T.xm.kp T.yk (ja (za (pv 0)) (ja (za (pv 4)) (ja (ka) (wb))))) (wb)))) (vC (za (pv 6)) (xj (qd (za (pv 7)) (ka))) (zK))))) (zh)) (kb (ki (zf (op_eqD hr.units) kL (za (pv 5)) (ka) (nomark _)) (kc (we (i := 6) qj.nd (vC (za (pv 6)) (xj (ka)) (zK)))) (zh)) (kc (we (i := 2) qj.nd (qd (za (pv 2)) (za (pv 6)))))))))) (kb (we (i := 8) qj.nd (zk (zm (ja (ka) (ja (ka) (wb)))) (ye kl tk (hr.mono (by decide)) T.xn T.xm.kp T.yk (ja (za (pv 0)) (ja (qd (za (pv 4)) (ka)) (ja (ka) (wb))))))) (kc (we (i := 2) qj.nd (qd (za (pv 2)) (jaJ (own := [("j", 9)]) (tg := .Name _ _) rfl qj.nd yaT (kr T.zq (ja (ye kl tk (hr.mono (by decide)) T.xn T.xm.kp T.yk (ja (za (pv 0)) (ja (qd (za (pv 4)) (ka)) (ja (ka) (wb))))) (wb))) (blkOk_by (own := [("j", 9)]) (N := ["draws", "k", "row", "n", "at", "word", "piece", "place", "menu", "j"]) (sc := defScope jC) (by decide +kernel)) (fun _ _ _ _ _ => pg_name (i := 9) qj.nd rfl (by first | exact Or.inl rfl | exact Or.inr rfl)) (fun _ _ _ _ _ => qac) (fun _ _ _ _ _ => ye kl takes0 (hr.mono (by decide)) T.xn T.xm.kp T.yk (ja (za (pv 0)) (ja (qd (qd (za (pv 4)) (ka)) (za (pv 9))) (ja (za (pv 8)) (wb))))))))))))))) (kc (yi (za (pv 2)))))
theorem kcv (T : Txt K mg Cl) : FnOk P w K mg base (L2.CX P w) 1 T.ybg T.qa8 ["row"] (qE K Cl 1 FN.qaj) := by
  refine ko (k := 0) T.xbP xY rfl rfl fun cdv A outer s H E hr => ?_
  refine wO fun tk hp => ?_
  exact kb (xbf (i := 1) (own := [("at", 2), ("byte", 3)]) (tg := .Tuple _ _ _) rfl xY.nd (qcZ (is := [2, 3]) (by decide)) (xcz T.v7 (ja (za (pv 0)) (wb))) (blkOk_by (own := [("at", 2), ("byte", 3)]) (N := ["row", "zeros", "at", "byte", "before", "after"]) (sc := defScope yY) (by decide +kernel)) (fun _ _ _ _ _ => pg_tup rfl (pgs_cons (pg_name (i := 2) xY.nd rfl (by first | exact Or.inl rfl | exact Or.inr rfl)) (pgs_cons (pg_name (i := 3) xY.nd rfl (by first | exact Or.inl rfl | exact Or.inr rfl)) (pgs_nil)))) (fun _ _ _ _ _ => zbp (zf (op_eqD hr.units) kL (za (pv 3)) (ka) (nomark _))) (fun _ _ _ _ _ => za (pv 2)) (sw_true rfl rfl rfl (by decide +kernel))) (kc (yi (jaJ (own := [("before", 4), ("after", 5)]) (tg := .Tuple _ _ _) rfl xY.nd (qcZ (is := [4, 5]) (by decide)) (xcZ T.xbl (ja (za (pv 1)) (ja (vC (za (pv 1)) (xj (ka)) (zK)) (wb)))) (blkOk_by (own := [("before", 4), ("after", 5)]) (N := ["row", "zeros", "at", "byte", "before", "after"]) (sc := defScope yY) (by decide +kernel)) (fun _ _ _ _ _ => pg_tup rfl (pgs_cons (pg_name (i := 4) xY.nd rfl (by first | exact Or.inl rfl | exact Or.inr rfl)) (pgs_cons (pg_name (i := 5) xY.nd rfl (by first | exact Or.inl rfl | exact Or.inr rfl)) (pgs_nil)))) (fun _ _ _ _ _ => zbp (zf qM zM (qd (za (pv 4)) (ka)) (za (pv 5)) (nomark _))) (fun _ _ _ _ _ => qO (ja (qd (za (pv 4)) (ka)) (ja (za (pv 5)) (wb)))))))
theorem xbR (T : Txt K mg Cl) : FnOk P w K mg base (L2.CX P w) 1 T.xaO T.yaF ["row"] (qE K Cl 1 FN.qN) := by
  refine ko (k := 0) T.kaO vbP rfl rfl fun cdv A outer s H E hr => ?_
  refine wO fun tk hp => ?_
  exact kc (yi (qd (qd (qd (zk (za (pv 0)) (ka)) (kan (zk (za (pv 0)) (ka)) (ka))) (kan (zk (za (pv 0)) (ka)) (ka))) (kan (zk (za (pv 0)) (ka)) (ka))))
theorem zbB (T : Txt K mg Cl) : FnOk P w K mg base (L2.CX P w) 3 T.xaF T.qau ["writing"] (qE K Cl 1 FN.xq) := by
  have yu := yam (P := P) (w := w) (base := base) T
  have ybd := xbR (P := P) (w := w) (base := base) T
  refine ko (k := 2) T.za8 kbz rfl rfl fun cdv A outer s H E hr => ?_
  refine wO fun tk hp => ?_
  exact kb (ki (wai (qaa (zf (op_eqD hr.units) kL (vi call_len yp T.jr PySem.boot_len (ja (za (pv 0)) (wb))) (ka) (nomark _)) (wW (zf yO xO (zk (za (pv 0)) (ka)) (zx T.zdd) (nomark _))))) (kc (xt (c := 5) T.jcv T.jA yu tk (hr.mono (by decide)) (ka))) (zh)) (kb (ki (zf qM zM (vi call_len yp T.jr PySem.boot_len (ja (za (pv 0)) (wb))) (ka) (nomark _)) (kc (xt (c := 6) T.zch T.jA yu tk (hr.mono (by decide)) (ka))) (zh)) (kb (ki (zf qM zM (vi call_len yp T.jr PySem.boot_len (ja (za (pv 0)) (wb))) (zx T.kbb) (nomark _)) (kc (xt (c := 7) T.wb0 T.jA yu tk (hr.mono (by decide)) (ka))) (zh)) (kc (yi (qO (ja (zk (za (pv 0)) (ka)) (ja (ye ybd tk (hr.mono (by decide)) T.zbd T.kaO.kp T.j7 (ja (vC (za (pv 0)) (xj (ka)) (xj (ka))) (wb))) (ja (ye ybd tk (hr.mono (by decide)) T.zbd T.kaO.kp T.j7 (ja (vC (za (pv 0)) (xj (ka)) (xj (zx T.kbb))) (wb))) (wb)))))))))
theorem vbm (T : Txt K mg Cl) : FnOk P w K mg base (L2.CX P w) 3 T.xal T.xah ["row", "at"] (qE K Cl 2 FN.xr) := by
  have yu := yam (P := P) (w := w) (base := base) T
  refine ko (k := 2) T.jaS yaJ rfl rfl fun cdv A outer s H E hr => ?_
  refine wO fun tk hp => ?_
  exact kb (jF hp rfl (kbx T.zq (ja (za (pv 1)) (ja (qd (za (pv 1)) (zx T.ka8)) (wb)))) (wA (i := 2) yaJ.nd) (kb (ki (zf jaA waA (za (pv 2)) (vi call_len yp T.jr PySem.boot_len (ja (za (pv 0)) (wb))) (nomark _)) (kc (xt (c := 3) T.vb0 T.jA yu tk (hr.mono (by decide)) (vi call_len yp T.jr PySem.boot_len (ja (za (pv 0)) (wb))))) (zh)) (kc (ki (zf qM zM (zk (za (pv 0)) (za (pv 2))) (ka) (nomark _)) (kc (yi (qd (za (pv 2)) (ka)))) (zh))))) (kc (yi (qd (za (pv 1)) (zx T.ka8))))
theorem kbR (T : Txt K mg Cl) : FnOk P w K mg base (L2.CX P w) 4 T.qaP T.kaF ["row", "at"] (qE K Cl 2 FN.vz) := by
  have yu := yam (P := P) (w := w) (base := base) T
  have qbt := vbm (P := P) (w := w) (base := base) T
  refine ko (k := 3) T.jbd kY rfl rfl fun cdv A outer s H E hr => ?_
  refine wO fun tk hp => ?_
  exact kb (we (i := 2) kY.nd (ye qbt tk (hr.mono (by decide)) T.zbs T.jaS.kp T.zH (ja (za (pv 0)) (ja (za (pv 1)) (wb))))) (kb (we (i := 3) kY.nd (ka)) (kb (jF hp rfl (kbx T.zq (ja (za (pv 1)) (ja (za (pv 2)) (wb)))) (wA (i := 4) kY.nd) (kc (wcr (i := 3) kY.nd (kan (yL (zk (za (pv 0)) (za (pv 4))) (ka)) (kH (ka) (xan (za (pv 4)) (za (pv 1))))) ip_add))) (kb (ki (wai (qaa (zf jaA waA (zk (za (pv 0)) (xan (za (pv 2)) (ka))) (ka) (nomark _)) (wW (zf jaA waA (za (pv 3)) (zx T.wbQ) (nomark _))))) (kc (xt (c := 1) T.kbQ T.jA yu tk (hr.mono (by decide)) (za (pv 1)))) (zh)) (kb (ki (wai (kcq (zf yO xO (xan (za (pv 2)) (za (pv 1))) (ka) (nomark _)) (wb9 (zf (op_eqD hr.units) kL (zk (za (pv 0)) (xan (za (pv 2)) (ka))) (ka) (nomark _))))) (kc (xt (c := 2) T.vbA T.jA yu tk (hr.mono (by decide)) (za (pv 1)))) (zh)) (kc (yi (qO (ja (za (pv 3)) (ja (za (pv 2)) (wb))))))))))
theorem ja1 (T : Txt K mg Cl) : FnOk P w K mg base (L2.CX P w) 5 T.qaG T.zau ["row", "at", "top"] (qE K Cl 3 FN.vm) := by
  have jb1 := kbR (P := P) (w := w) (base := base) T
  refine ko (k := 4) T.yR vat rfl rfl fun cdv A outer s H E hr => ?_
  refine wO fun tk hp => ?_
  exact kb (xcY rfl rfl (fun W1 pn1 xe1 tk1 hp1 => kc (y6 (vW rfl (vh (i := 3) vat.nd (vh (i := 4) vat.nd (jO)))) (ye jb1 tk1 (hr.mono (by decide)) T.kbZ T.jbd.kp T.kG (ja (za (pv 0)) (ja (za (pv 1)) (wb)))))) (jcz (N := fun c => DL.ErF K (Cl c)) rfl ⟨rfl, by decide, .inl T.zbR⟩ ⟨rfl, by decide, .inl T.ybA⟩ ⟨rfl, by decide, .inl T.vbs⟩ (wbe (P := fun c b => DL.ErF K (Cl c) ∧ PySem.W.exmAny K (.ref (Cl c)) [.ref (Cl 3), .ref (Cl 1), .ref (Cl 2)] = some b) (.cons ⟨T.qa1, vbe T.waI T.waH T.zay⟩ (.cons ⟨T.vaS, vbe T.jaH T.qay T.jav⟩ (.cons ⟨T.za9, vbe T.yaP T.jaI T.zaH⟩ .nil)))) (fun xa oe pn => kc (yi (qO (ja (yx) (ja (za (pv 1)) (wb)))))) (vb8 rfl rfl tk))) (kb (ki (zf yO xO (za (pv 3)) (za (pv 2)) (nomark _)) (kc (yi (qO (ja (yx) (ja (za (pv 1)) (wb)))))) (zh)) (kc (yi (qO (ja (za (pv 3)) (ja (za (pv 4)) (wb)))))))
theorem jbB (T : Txt K mg Cl) : FnOk P w K mg base (L2.CX P w) 6 T.zaG T.jau ["writing"] (qE K Cl 1 FN.jP) := by
  have yu := yam (P := P) (w := w) (base := base) T
  have xR := ja1 (P := P) (w := w) (base := base) T
  refine ko (k := 5) T.ja8 yw rfl rfl fun cdv A outer s H E hr => ?_
  refine wO fun tk hp => ?_
  exact kb (y6 (vW rfl (vh (i := 1) yw.nd (vh (i := 2) yw.nd (jO)))) (ye xR tk (hr.mono (by decide)) T.qZ T.yR.kp T.jw (ja (za (pv 0)) (ja (zx T.kbb) (ja (zx T.jb0) (wb)))))) (kb (ki (zf op_isN qaA (za (pv 1)) (yx) (nomark _)) (kc (xt (c := 8) T.jch T.jA yu tk (hr.mono (by decide)) (zx T.kbb))) (zh)) (kb (y6 (vW rfl (vh (i := 3) yw.nd (vh (i := 4) yw.nd (jO)))) (ye xR tk (hr.mono (by decide)) T.qZ T.yR.kp T.jw (ja (za (pv 0)) (ja (za (pv 2)) (ja (zx T.wbA) (wb)))))) (kb (ki (zf op_isN qaA (za (pv 3)) (yx) (nomark _)) (kc (xt (c := 9) T.qbR T.jA yu tk (hr.mono (by decide)) (za (pv 2)))) (zh)) (kb (y6 (vW rfl (vh (i := 5) yw.nd (vh (i := 6) yw.nd (jO)))) (ye xR tk (hr.mono (by decide)) T.qZ T.yR.kp T.jw (ja (za (pv 0)) (ja (za (pv 4)) (ja (zx T.xcg) (wb)))))) (kb (ki (zf op_isN qaA (za (pv 5)) (yx) (nomark _)) (kc (xt (c := 10) T.wcv T.jA yu tk (hr.mono (by decide)) (za (pv 4)))) (zh)) (kb (y6 (vW rfl (vh (i := 7) yw.nd (vh (i := 8) yw.nd (jO)))) (ye xR tk (hr.mono (by decide)) T.qZ T.yR.kp T.jw (ja (za (pv 0)) (ja (za (pv 6)) (ja (zx T.kcg) (wb)))))) (kb (ki (zf op_isN qaA (za (pv 7)) (yx) (nomark _)) (kc (xt (c := 11) T.vcv T.jA yu tk (hr.mono (by decide)) (za (pv 6)))) (zh)) (kc (yi (qO (ja (za (pv 1)) (ja (za (pv 3)) (ja (za (pv 5)) (ja (za (pv 7)) (ja (za (pv 8)) (wb))))))))))))))))
theorem qbS (T : Txt K mg Cl) : FnOk P w K mg base (L2.CX P w) 6 T.zaP T.jaG ["writing", "at"] (qE K Cl 2 FN.xM) := by
  have yu := yam (P := P) (w := w) (base := base) T
  have xR := ja1 (P := P) (w := w) (base := base) T
  refine ko (k := 5) T.wbd yaE rfl rfl fun cdv A outer s H E hr => ?_
  refine wO fun tk hp => ?_
  exact kb (y6 (vW rfl (vh (i := 2) yaE.nd (vh (i := 3) yaE.nd (jO)))) (ye xR tk (hr.mono (by decide)) T.qZ T.yR.kp T.jw (ja (za (pv 0)) (ja (za (pv 1)) (ja (zx T.qch) (wb)))))) (kb (ki (zf op_isN qaA (za (pv 2)) (yx) (nomark _)) (kc (xt (c := 13) T.ycv T.jA yu tk (hr.mono (by decide)) (za (pv 1)))) (zh)) (kb (ki (zf yO xO (qd (za (pv 3)) (za (pv 2))) (vi call_len yp T.jr PySem.boot_len (ja (za (pv 0)) (wb))) (nomark _)) (kc (xt (c := 14) T.yb0 T.jA yu tk (hr.mono (by decide)) (za (pv 3)))) (zh)) (kc (yi (qO (ja (vC (za (pv 0)) (xj (za (pv 3))) (xj (qd (za (pv 3)) (za (pv 2))))) (ja (qd (za (pv 3)) (za (pv 2))) (wb))))))))
theorem wbB (T : Txt K mg Cl) : FnOk P w K mg base (L2.CX P w) 1 T.waG T.wau ["number"] (qE K Cl 1 FN.jD) := by
  refine ko (k := 0) T.wa8 qbA rfl rfl fun cdv A outer s H E hr => ?_
  refine wO fun tk hp => ?_
  exact kc (yi (zm (ja (yL (za (pv 0)) (ka)) (ja (yL (jW (za (pv 0)) (ka)) (ka)) (ja (yL (jW (za (pv 0)) (ka)) (ka)) (ja (yL (jW (za (pv 0)) (ka)) (ka)) (wb)))))))
theorem zbt (T : Txt K mg Cl) : FnOk P w K mg base (L2.CX P w) 1 T.vau T.kal ["total", "row"] (qE K Cl 2 FN.jaa) := by
  refine ko (k := 0) T.ya0 xH rfl rfl fun cdv A outer s H E hr => ?_
  refine wO fun tk hp => ?_
  exact kb (we (i := 2) xH.nd (qao (za (pv 0)) (ka))) (kb (jF hp rfl (jao (za (pv 1))) (wA (i := 3) xH.nd) (kb (we (i := 2) xH.nd (qao (za (pv 2)) (za (pv 3)))) (kb (we (i := 2) xH.nd (qao (jW (za (pv 2)) (ka)) (zk (jbH T.vbQ T.ybQ) (yL (za (pv 2)) (ka))))) (kc (we (i := 2) xH.nd (qao (jW (za (pv 2)) (ka)) (zk (jbH T.vbQ T.ybQ) (yL (za (pv 2)) (ka))))))))) (kc (yi (qao (za (pv 2)) (ka)))))
theorem wb1 (T : Txt K mg Cl) : FnOk P w K mg base (L2.CX P w) 2 T.xaZ T.jaP ["row"] (qE K Cl 1 FN.yK) := by
  have vbB := zbt (P := P) (w := w) (base := base) T
  refine ko (k := 1) T.kbl ybZ rfl rfl fun cdv A outer s H E hr => ?_
  refine wO fun tk hp => ?_
  exact kc (yi (ye vbB tk (hr.mono (by decide)) T.zbA T.ya0.kp T.waa (ja (ka) (ja (za (pv 0)) (wb)))))
theorem zbS (T : Txt K mg Cl) : FnOk P w K mg base (L2.CX P w) 7 T.waP T.vaG ["writing"] (qE K Cl 1 FN.xB) := by
  have yu := yam (P := P) (w := w) (base := base) T
  have jbS := zbB (P := P) (w := w) (base := base) T
  have wbS := jbB (P := P) (w := w) (base := base) T
  have vb1 := qbS (P := P) (w := w) (base := base) T
  have vbS := wbB (P := P) (w := w) (base := base) T
  have qci := wb1 (P := P) (w := w) (base := base) T
  refine ko (k := 6) T.vbd zr rfl rfl fun cdv A outer s H E hr => ?_
  refine wO fun tk hp => ?_
  exact kb (y6 (vW rfl (vh (i := 1) zr.nd (vh (i := 2) zr.nd (vh (i := 3) zr.nd (jO))))) (ye jbS tk (hr.mono (by decide)) T.kbP T.za8.kp T.zI (ja (za (pv 0)) (wb)))) (kb (y6 (vW rfl (vh (i := 4) zr.nd (vh (i := 5) zr.nd (vh (i := 6) zr.nd (vh (i := 7) zr.nd (vh (i := 8) zr.nd (jO))))))) (ye wbS tk (hr.mono (by decide)) T.qbQ T.ja8.kp T.qaf (ja (za (pv 0)) (wb)))) (kb (ki (wai (qaa (zf jaA waA (za (pv 8)) (vi call_len yp T.jr PySem.boot_len (ja (za (pv 0)) (wb))) (nomark _)) (wW (zf yO xO (zk (za (pv 0)) (za (pv 8))) (zx T.zcv) (nomark _))))) (kc (xt (c := 12) T.ycE T.jA yu tk (hr.mono (by decide)) (za (pv 8)))) (zh)) (kb (we (i := 9) zr.nd (zk (za (pv 0)) (za (pv 8)))) (kb (y6 (vW rfl (vh (i := 10) zr.nd (vh (i := 11) zr.nd (jO)))) (ye vb1 tk (hr.mono (by decide)) T.qb0 T.wbd.kp T.qan (ja (za (pv 0)) (ja (qd (za (pv 8)) (ka)) (wb))))) (kb (ki (zf (op_neD hr.units) jba (vC (za (pv 0)) (xj (za (pv 11))) (zK)) (ye vbS tk (hr.mono (by decide)) T.zbQ T.wa8.kp T.xae (ja (ye qci tk (hr.mono (by decide)) T.wcg T.kbl.kp T.yaU (ja (vC (za (pv 0)) (zK) (xj (za (pv 11)))) (wb))) (wb))) (nomark _)) (kc (xt (c := 15) T.wch T.jA yu tk (hr.mono (by decide)) (za (pv 11)))) (zh)) (kc (yi (qO (ja (za (pv 1)) (ja (za (pv 2)) (ja (za (pv 3)) (ja (za (pv 4)) (ja (za (pv 5)) (ja (za (pv 6)) (ja (za (pv 7)) (ja (za (pv 9)) (ja (za (pv 10)) (wb))))))))))))))))))
theorem zci (T : Txt K mg Cl) : FnOk P w K mg base (L2.CX P w) 3 T.va8 T.kaZ ["piece"] (qE K Cl 1 FN.xp) := by
  have yu := yam (P := P) (w := w) (base := base) T
  refine ko (k := 2) T.kby jah rfl rfl fun cdv A outer s H E hr => ?_
  refine wO fun tk hp => ?_
  exact kb (ki (zf op_in_seq zdb (ka) (za (pv 0)) (by rfl)) (kc (xt (c := 4) T.qab T.jA yu tk (hr.mono (by decide)) (jcB (pe_bm PySem.F.plainAttrs_list PySem.F.slot_list_index PySem.F.type_list_index mt_index (za (pv 0)) (pa_cons (ka) pa_nil))))) (zh)) (kb (ki (zf (op_eqD hr.units) kL (vi call_len yp T.jr PySem.boot_len (ja (za (pv 0)) (wb))) (ka) (nomark _)) (kc (xt (c := 4) T.qab T.jA yu tk (hr.mono (by decide)) (ka))) (zh)) (kb (waQ (i := 1) jah.nd (zm (wb))) (kb (we (i := 2) jah.nd (ka)) (kb (kcA hp (zf qM zM (za (pv 2)) (vi call_len yp T.jr PySem.boot_len (ja (za (pv 0)) (wb))) (nomark _)) (kb (we (i := 3) jah.nd (zk (za (pv 0)) (za (pv 2)))) (kb (ki (zf yO xO (qd (za (pv 2)) (za (pv 3))) (vi call_len yp T.jr PySem.boot_len (ja (za (pv 0)) (wb))) (nomark _)) (kc (xt (c := 4) T.qab T.jA yu tk (hr.mono (by decide)) (za (pv 2)))) (zh)) (kb (jc1 (i := 1) (pe_bm PySem.F.plainAttrs_list PySem.F.slot_list_extend PySem.F.type_list_extend wcU (pv 1) (pa_cons (vC (za (pv 0)) (xj (qd (za (pv 2)) (ka))) (xj (qd (za (pv 2)) (za (pv 3))))) pa_nil))) (kb (wcr (i := 2) jah.nd (za (pv 3)) ip_add) (kc (ki (zf qM zM (za (pv 3)) (zx T.zc8) (nomark _)) (kc (zaA (i := 1) (pe_bm PySem.F.plainAttrs_list PySem.F.slot_list_append PySem.F.type_list_append mt_append (pv 1) (pa_cons (ka) pa_nil)))) (kc (ki (zf (op_eqD hr.units) kL (za (pv 2)) (vi call_len yp T.jr PySem.boot_len (ja (za (pv 0)) (wb))) (nomark _)) (kc (xt (c := 4) T.qab T.jA yu tk (hr.mono (by decide)) (za (pv 2)))) (zh)))))))))) (kb (wc1 (i := 1) (pe_bm0 PySem.F.plainAttrs_list PySem.F.slot_list_pop PySem.F.type_list_pop mt_pop (pv 1))) (kc (yi (za (pv 1)))))))))
theorem xbd (T : Txt K mg Cl) : FnOk P w K mg base (L2.CX P w) 8 T.xaJ T.kax ["row"] (spF K Cl 8 1 FN.zap) := by
  have yb1 := zbS (P := P) (w := w) (base := base) T
  have xcE := kcv (P := P) (w := w) (base := base) T
  have qcw := zci (P := P) (w := w) (base := base) T
  refine ycU (k := 7) T.kaJ xax rfl rfl fun cdv A outer s H E hr => ?_
  refine tkP fun tk hp => ?_
  exact wc2 (W := fun cls d _ H2 => E cls d H2) (i := 1) (il := 4) (i1 := 2) (i2 := 3) (kx := 8) rfl xax.nd hp rfl rfl yb1 (hr.mono (by decide)) T.zb0 T.vbd.kp T.xbc (zm (wb)) (jao (ye xcE tk (hr.mono (by decide)) T.vcE T.xbP.kp T.vaU (ja (za (pv 0)) (wb)))) (vW rfl (vh (i := 2) xax.nd (vh (i := 3) xax.nd (jO)))) (fun W1 pn1 xe1 tk1 => ja (ye qcw tk1 (hr.mono (by decide)) T.qcv T.kby.kp T.jap (ja (vC (za (pv 0)) (xj (za (pv 2))) (xj (za (pv 3)))) (wb))) (wb)) (qcT (N := fun c => DL.ErF K (Cl c)) rfl ⟨rfl, by decide, .inl T.xbg⟩ (wbe (P := fun c b => DL.ErF K (Cl c) ∧ PySem.W.exmOne K (.ref (Cl c)) (.ref (Cl 0)) = some b) (.cons ⟨T.qa1, T.jaq⟩ (.cons ⟨T.vaS, T.vam⟩ (.cons ⟨T.za9, T.yav⟩ (.cons ⟨T.ybs, T.wam⟩ (.cons ⟨T.kch, T.kaH⟩ (.cons ⟨T.qb1, T.yay⟩ (.cons ⟨T.wbR, T.vav⟩ (.cons ⟨T.kb0, T.vay⟩ (.cons ⟨T.xbA, T.zaq⟩ (.cons ⟨T.xch, T.xaH⟩ (.cons ⟨T.ych, T.yaH⟩ (.cons ⟨T.xcv, T.vaI⟩ (.cons ⟨T.vch, T.vaH⟩ (.cons ⟨T.jbR, T.wav⟩ (.cons ⟨T.xb0, T.jay⟩ .nil)))))))))))))))) (fun xa oe pn => kc (qbZ)) (vb8 rfl rfl tk)) (fun p => pv 1) (pe_bm PySem.F.plainAttrs_list PySem.F.slot_list_append PySem.F.type_list_append mt_append (pv 1) (pa_cons (pe_tup (pa_cons (za (pv 2)) (pa_cons (za (pv 3)) (pa_cons (pv 4) pa_nil)))) pa_nil))
theorem jci (T : Txt K mg Cl) : FnOk P w K mg base (L2.CX P w) 8 T.xaJ T.kax ["row"] (qE K Cl 1 FN.vac) := (xbd T).imp fun vs H Q E h => zc2 h
theorem jbt (T : Txt K mg Cl) : FnOk P w K mg base (L2.CX P w) 1 T.yau T.qam ["piece"] (qE K Cl 1 FN.yq) := by
  refine ko (k := 0) T.xa0 qv rfl rfl fun cdv A outer s H E hr => ?_
  refine wO fun tk hp => ?_
  exact kb (we (i := 1) qv.nd (zm (wb))) (kb (we (i := 2) qv.nd (ka)) (kb (we (i := 3) qv.nd (ka)) (kb (jF hp rfl (kr T.zq (ja (vi call_len yp T.jr PySem.boot_len (ja (za (pv 0)) (wb))) (wb))) (wA (i := 4) qv.nd) (kc (ki (zf qM zM (za (pv 2)) (vi call_len yp T.jr PySem.boot_len (ja (za (pv 0)) (wb))) (nomark _)) (kb (we (i := 3) qv.nd (zk (za (pv 0)) (za (pv 2)))) (kb (ki (zf yO xO (qd (za (pv 2)) (za (pv 3))) (vi call_len yp T.jr PySem.boot_len (ja (za (pv 0)) (wb))) (nomark _)) (kc (yi (yx))) (zh)) (kb (we (i := 1) qv.nd (qd (za (pv 1)) (vC (za (pv 0)) (xj (qd (za (pv 2)) (ka))) (xj (qd (za (pv 2)) (za (pv 3))))))) (kb (ki (zf qM zM (za (pv 3)) (ka) (nomark _)) (kc (we (i := 1) qv.nd (qd (za (pv 1)) (zm (ja (ka) (wb)))))) (zh)) (kc (we (i := 2) qv.nd (qd (za (pv 2)) (za (pv 3))))))))) (zh)))) (kb (ki (zf (op_eqD hr.units) kL (za (pv 3)) (ka) (nomark _)) (kc (yi (yx))) (zh)) (kc (yi (vC (za (pv 1)) (zK) (xj (vbH (ka))))))))))
theorem wbt (T : Txt K mg Cl) : FnOk P w K mg base (L2.CX P w) 1 T.xau T.zam ["row", "at", "bound"] (qE K Cl 3 FN.vx) := by
  refine ko (k := 0) T.kau w5 rfl rfl fun cdv A outer s H E hr => ?_
  refine wO fun tk hp => ?_
  exact kb (we (i := 3) w5.nd (ka)) (kb (jF hp rfl (kr T.zq (ja (ka) (wb))) (wA (i := 4) w5.nd) (kc (ki (zf qM zM (qd (za (pv 1)) (za (pv 4))) (vi call_len yp T.jr PySem.boot_len (ja (za (pv 0)) (wb))) (nomark _)) (kb (we (i := 3) w5.nd (qd (za (pv 3)) (kan (yL (zk (za (pv 0)) (qd (za (pv 1)) (za (pv 4)))) (ka)) (kH (ka) (za (pv 4)))))) (kc (ki (zf qM zM (zk (za (pv 0)) (qd (za (pv 1)) (za (pv 4)))) (ka) (nomark _)) (kb (ki (wai (qaa (zf jaA waA (za (pv 3)) (za (pv 2)) (nomark _)) (wW (wai (kcq (zf yO xO (za (pv 4)) (ka) (nomark _)) (wb9 (zf (op_eqD hr.units) kL (zk (za (pv 0)) (qd (za (pv 1)) (za (pv 4)))) (ka) (nomark _)))))))) (kc (yi (yx))) (zh)) (kc (yi (qO (ja (za (pv 3)) (ja (qd (qd (za (pv 1)) (za (pv 4))) (ka)) (wb))))))) (zh)))) (zh)))) (kc (yi (yx))))
theorem ybm (T : Txt K mg Cl) : FnOk P w K mg base (L2.CX P w) 2 T.jam T.kah ["row"] (qE K Cl 1 FN.zP) := by
  have wa1 := wbt (P := P) (w := w) (base := base) T
  have qaI := za1 (P := P) (w := w) (base := base) T
  refine ko (k := 1) T.waS wj rfl rfl fun cdv A outer s H E hr => ?_
  refine wO fun tk hp => ?_
  exact kb (ki (wai (qaa (zf qM zM (vi call_len yp T.jr PySem.boot_len (ja (za (pv 0)) (wb))) (ka) (nomark _)) (wW (zf yO xO (zk (za (pv 0)) (ka)) (ka) (nomark _))))) (kc (yi (yx))) (zh)) (kb (waQ (i := 1) wj.nd (qd (zm (ja (zk (za (pv 0)) (ka)) (wb))) (jaJ (own := [("j", 3)]) (tg := .Name _ _) rfl wj.nd yaT (kr T.zq (ja (ka) (wb))) (blkOk_by (own := [("j", 3)]) (N := ["row", "fields", "k", "j", "at", "bound", "told", "stop"]) (sc := defScope ky) (by decide +kernel)) (fun _ _ _ _ _ => pg_name (i := 3) wj.nd rfl (by first | exact Or.inl rfl | exact Or.inr rfl)) (fun _ _ _ _ _ => qac) (fun _ _ _ _ _ => vi (cr_sum rfl) jb9 T.ybb (by decide +kernel) (ja (jaJ (own := [("k", 2)]) (tg := .Name _ _) rfl wj.nd yaT (kr T.zq (ja (ka) (wb))) (blkOk_by (own := [("k", 2)]) (N := ["row", "fields", "k", "j", "at", "bound", "told", "stop"]) (by rfl)) (fun _ _ _ _ _ => pg_name (i := 2) wj.nd rfl (by first | exact Or.inl rfl | exact Or.inr rfl)) (fun _ _ _ _ _ => qac) (fun _ _ _ _ _ => kan (zk (za (pv 0)) (qd (qd (ka) (kH (ka) (za (pv 3)))) (za (pv 2)))) (kH (ka) (za (pv 2))))) (wb)))))) (kb (we (i := 4) wj.nd (ka)) (kb (jF hp rfl (jao (zm (ja (ka) (ja (ka) (ja (ka) (ja (ka) (wb))))))) (wA (i := 5) wj.nd) (kb (we (i := 6) wj.nd (ye wa1 tk (hr.mono (by decide)) T.ka0 T.kau.kp T.kaq (ja (za (pv 0)) (ja (za (pv 4)) (ja (za (pv 5)) (wb)))))) (kb (ki (zf op_isN qaA (za (pv 6)) (yx) (nomark _)) (kc (yi (yx))) (zh)) (kb (zaA (i := 1) (pe_bm PySem.F.plainAttrs_list PySem.F.slot_list_append PySem.F.type_list_append mt_append (pv 1) (pa_cons (zk (za (pv 6)) (ka)) pa_nil))) (kc (we (i := 4) wj.nd (zk (za (pv 6)) (ka)))))))) (kb (ki (wai (qaa (zf jaA waA (za (pv 4)) (vi call_len yp T.jr PySem.boot_len (ja (za (pv 0)) (wb))) (nomark _)) (wW (zf yO xO (zk (za (pv 0)) (za (pv 4))) (ka) (nomark _))))) (kc (yi (yx))) (zh)) (kb (we (i := 6) wj.nd (ye wa1 tk (hr.mono (by decide)) T.ka0 T.kau.kp T.kaq (ja (za (pv 0)) (ja (qd (za (pv 4)) (ka)) (ja (ka) (wb)))))) (kb (ki (wai (qaa (zf op_isN qaA (za (pv 6)) (yx) (nomark _)) (wW (zf (op_neD hr.units) jba (vi call_len yp T.jr PySem.boot_len (ja (za (pv 0)) (wb))) (qd (qd (zk (za (pv 6)) (ka)) (zk (za (pv 6)) (ka))) (ka)) (nomark _))))) (kc (yi (yx))) (zh)) (kb (we (i := 7) wj.nd (qd (zk (za (pv 6)) (ka)) (zk (za (pv 6)) (ka)))) (kb (ki (zf (op_neD hr.units) jba (vi (cr_sum rfl) jb9 T.ybb (by decide +kernel) (ja (jaJ (own := [("k", 2)]) (tg := .Name _ _) rfl wj.nd yaT (kr T.zq (ja (ka) (wb))) (blkOk_by (own := [("k", 2)]) (N := ["row", "fields", "k", "j", "at", "bound", "told", "stop"]) (sc := defScope ky) (by decide +kernel)) (fun _ _ _ _ _ => pg_name (i := 2) wj.nd rfl (by first | exact Or.inl rfl | exact Or.inr rfl)) (fun _ _ _ _ _ => qac) (fun _ _ _ _ _ => kan (zk (za (pv 0)) (qd (za (pv 7)) (za (pv 2)))) (kH (ka) (za (pv 2))))) (wb))) (ye qaI tk (hr.mono (by decide)) T.ka7 T.jaF.kp T.jX (ja (vC (za (pv 0)) (zK) (xj (za (pv 7)))) (wb))) (nomark _)) (kc (yi (yx))) (zh)) (kc (yi (yG call_tuple_of kcz T.jaz (by decide +kernel) (ja (qd (za (pv 1)) (zm (ja (zk (za (pv 0)) (za (pv 4))) (ja (vC (za (pv 0)) (xj (zk (za (pv 6)) (ka))) (xj (za (pv 7)))) (wb))))) (wb)))))))))))))
theorem ybB (T : Txt K mg Cl) : FnOk P w K mg base (L2.CX P w) 3 T.yaG T.qav ["row"] (qE K Cl 1 FN.vae) := by
  have xbB := jbt (P := P) (w := w) (base := base) T
  have vbt := ybm (P := P) (w := w) (base := base) T
  refine ko (k := 2) T.xa8 xw rfl rfl fun cdv A outer s H E hr => ?_
  refine wO fun tk hp => ?_
  exact kb (waQ (i := 1) xw.nd (zm (wb))) (kb (xbf (i := 2) (own := [("k", 3)]) (tg := .Name _ _) rfl xw.nd yaT (kr T.zq (ja (vi call_len yp T.jr PySem.boot_len (ja (za (pv 0)) (wb))) (wb))) (blkOk_by (own := [("k", 3)]) (N := ["row", "out", "zeros", "k", "start", "stop", "writing", "leaf"]) (sc := defScope vJ) (by decide +kernel)) (fun _ _ _ _ _ => pg_name (i := 3) xw.nd rfl (by first | exact Or.inl rfl | exact Or.inr rfl)) (fun _ _ _ _ _ => zbp (zf (op_eqD hr.units) kL (zk (za (pv 0)) (za (pv 3))) (ka) (nomark _))) (fun _ _ _ _ _ => za (pv 3)) (sw_true rfl rfl rfl (by decide +kernel))) (kb (jF hp rfl (kr T.zq (ja (xan (vi call_len yp T.jr PySem.boot_len (ja (za (pv 2)) (wb))) (ka)) (wb))) (wA (i := 3) xw.nd) (kb (we (i := 4) xw.nd (qd (zk (za (pv 2)) (za (pv 3))) (ka))) (kb (we (i := 5) xw.nd (zk (za (pv 2)) (qd (za (pv 3)) (ka)))) (kc (ki (zf qM zM (za (pv 4)) (za (pv 5)) (nomark _)) (kb (we (i := 6) xw.nd (ye xbB tk (hr.mono (by decide)) T.jbA T.xa0.kp T.vK (ja (vC (za (pv 0)) (xj (za (pv 4))) (xj (za (pv 5)))) (wb)))) (kc (ki (zf op_notN qb9 (za (pv 6)) (yx) (nomark _)) (kb (we (i := 7) xw.nd (ye vbt tk (hr.mono (by decide)) T.jbs T.waS.kp T.xZ (ja (za (pv 6)) (wb)))) (kc (ki (zf op_notN qb9 (za (pv 7)) (yx) (nomark _)) (kc (zaA (i := 1) (pe_bm PySem.F.plainAttrs_list PySem.F.slot_list_append PySem.F.type_list_append mt_append (pv 1) (pa_cons (qO (ja (za (pv 4)) (ja (za (pv 5)) (ja (za (pv 7)) (wb))))) pa_nil)))) (zh)))) (zh)))) (zh)))))) (kc (yi (za (pv 1))))))
theorem jc8 (T : Txt K mg Cl) : FnOk P w K mg base (L2.CX P w) 9 T.vcg T.qbm ["script"] (qE K Cl 1 FN.yap) := by
  have wci := xbd (P := P) (w := w) (base := base) T
  have ybS := kbA (P := P) (w := w) (base := base) T
  have ybt := wbm (P := P) (w := w) (base := base) T
  have xbS := ybB (P := P) (w := w) (base := base) T
  have qbz := jci (P := P) (w := w) (base := base) T
  refine ko (k := 8) T.qdd wa7 rfl rfl fun cdv A outer s H E hr => ?_
  refine wO fun tk hp => ?_
  exact kb (we (i := 1) wa7.nd (ye ybS tk (hr.mono (by decide)) T.ybP T.va7.kp T.zae (ja (za (pv 0)) (wb)))) (kb (we (i := 2) wa7.nd (ye ybt tk (hr.mono (by decide)) T.qbs T.zaS.kp T.q0 (ja (za (pv 1)) (ja (ka) (wb))))) (kb (we (i := 3) wa7.nd (yG call_list_of xcT T.qaB (by decide +kernel) (ja (za (pv 2)) (wb)))) (qcs (i := 4) (j := 5) (k1 := 6) (k2 := 7) (k3 := 8) (kx := 8) rfl wa7.nd hp wci tk (hr.mono (by decide)) T.ya8 T.kaJ.kp T.wac (ja (za (pv 2)) (wb)) (ye xbS tk (hr.mono (by decide)) T.jbQ T.xa8.kp T.yae (ja (za (pv 3)) (wb))) (wai (qaa (ybI (vbI (wbI rfl T.jI T.qaB (by decide +kernel) (by decide) (za (pv 4))))) (qaa (zf (op_neD hr.units) jba (za (pv 4)) (za (pv 5)) (nomark _)) (wW (zf (op_neD hr.units) jba (za (pv 2)) (za (pv 3)) (nomark _)))))) (wai (qaa (ybI (vbI (wbI rfl T.jI T.jaz (by decide +kernel) (by decide) (za (pv 8))))) (wW (ybI (vbI (wbI rfl T.jI T.qaB (by decide +kernel) (by decide) (zk (za (pv 8)) (ka)))))))) (zf (op_neD hr.units) jba (ye qbz tk (hr.mono (by decide)) T.ya8 T.kaJ.kp T.wac (ja (qd (qd (zm (ja (ka) (wb))) (vC (za (pv 3)) (xj (za (pv 6))) (xj (za (pv 7))))) (zm (ja (ka) (wb)))) (wb))) (zm (ja (qO (ja (ka) (ja (xan (qd (ka) (za (pv 7))) (za (pv 6))) (ja (za (pv 8)) (wb))))) (wb))) (nomark _)) (pv 4) (pe_bm PySem.F.plainAttrs_list PySem.F.slot_list_append PySem.F.type_list_append mt_append (pe_ix ix_tup (pv 8) pe_int (fun _ _ => rfl)) (pa_cons (ka) pa_nil)) (pe_bm PySem.F.plainAttrs_list PySem.F.slot_list_append PySem.F.type_list_append mt_append (pv 4) (pa_cons (ka) pa_nil)) (kc (yi (zcZ (op_eqD hr.units) kL (ye qbz tk (hr.mono (by decide)) T.ya8 T.kaJ.kp T.wac (ja (za (pv 2)) (wb))) (za (pv 5)) (nomark _)))))))
end
theorem all_mk {P : Program} {w : World} {K : PySem.W.Frag} {h : Heap} {mg : Str → Option Value} {fa : Addr} (X : K.In h) (G : h.Ns mainGlobals mg) (hfa : mg "law" = some (.ref fa)) (hl : ∀ ns : List Int, ns.length ≤ 63 → FN.yap [qW ns] = some (.ret (.bool true)))
    {f0 : Addr} {od0 an0 : Option Addr} {sl0 : Array (Option Value)} {oc0 kV0 dc0 pm0 cd0 ct0 : Value}
    (a0 : PySem.W.nsIn K mainGlobals "_law_draws" = some (some (.ref f0))) (l0 : K.lookup f0 = some ⟨oc0, od0, .func (PySem.W.fnOf "_law_draws" "_law_draws" (defArgs xQ) (defBody xQ) (defScope xQ) .none kV0 dc0 pm0 an0 cd0 ct0), sl0⟩) (c0 : PySem.W.codeIn K cd0 "_law_draws" = true) (k0 : PySem.W.keepIn K (.ref f0) = true)
    {f1 : Addr} {od1 an1 : Option Addr} {sl1 : Array (Option Value)} {oc1 kV1 dc1 pm1 cd1 ct1 : Value}
    (a1 : PySem.W.nsIn K mainGlobals "_law_at" = some (some (.ref f1))) (l1 : K.lookup f1 = some ⟨oc1, od1, .func (PySem.W.fnOf "_law_at" "_law_at" (defArgs kac) (defBody kac) (defScope kac) .none kV1 dc1 pm1 an1 cd1 ct1), sl1⟩) (c1 : PySem.W.codeIn K cd1 "_law_at" = true) (k1 : PySem.W.keepIn K (.ref f1) = true)
    {f2 : Addr} {od2 an2 : Option Addr} {sl2 : Array (Option Value)} {oc2 kV2 dc2 pm2 cd2 ct2 : Value}
    (a2 : PySem.W.nsIn K mainGlobals "_law_stuffed" = some (some (.ref f2))) (l2 : K.lookup f2 = some ⟨oc2, od2, .func (PySem.W.fnOf "_law_stuffed" "_law_stuffed" (defArgs vH) (defBody vH) (defScope vH) .none kV2 dc2 pm2 an2 cd2 ct2), sl2⟩) (c2 : PySem.W.codeIn K cd2 "_law_stuffed" = true) (k2 : PySem.W.keepIn K (.ref f2) = true)
    {f3 : Addr} {od3 an3 : Option Addr} {sl3 : Array (Option Value)} {oc3 kV3 dc3 pm3 cd3 ct3 : Value}
    (a3 : PySem.W.nsIn K mainGlobals "_law_steps" = some (some (.ref f3))) (l3 : K.lookup f3 = some ⟨oc3, od3, .func (PySem.W.fnOf "_law_steps" "_law_steps" (defArgs wJ) (defBody wJ) (defScope wJ) .none kV3 dc3 pm3 an3 cd3 ct3), sl3⟩) (c3 : PySem.W.codeIn K cd3 "_law_steps" = true) (k3 : PySem.W.keepIn K (.ref f3) = true)
    {f4 : Addr} {od4 an4 : Option Addr} {sl4 : Array (Option Value)} {oc4 kV4 dc4 pm4 cd4 ct4 : Value}
    (a4 : PySem.W.nsIn K mainGlobals "_law_check" = some (some (.ref f4))) (l4 : K.lookup f4 = some ⟨oc4, od4, .func (PySem.W.fnOf "_law_check" "_law_check" (defArgs kQ) (defBody kQ) (defScope kQ) .none kV4 dc4 pm4 an4 cd4 ct4), sl4⟩) (c4 : PySem.W.codeIn K cd4 "_law_check" = true) (k4 : PySem.W.keepIn K (.ref f4) = true)
    {f5 : Addr} {od5 an5 : Option Addr} {sl5 : Array (Option Value)} {oc5 kV5 dc5 pm5 cd5 ct5 : Value}
    (a5 : PySem.W.nsIn K mainGlobals "_law_writing" = some (some (.ref f5))) (l5 : K.lookup f5 = some ⟨oc5, od5, .func (PySem.W.fnOf "_law_writing" "_law_writing" (defArgs xy) (defBody xy) (defScope xy) .none kV5 dc5 pm5 an5 cd5 ct5), sl5⟩) (c5 : PySem.W.codeIn K cd5 "_law_writing" = true) (k5 : PySem.W.keepIn K (.ref f5) = true)
    {f6 : Addr} {od6 an6 : Option Addr} {sl6 : Array (Option Value)} {oc6 kV6 dc6 pm6 cd6 ct6 : Value}
    (a6 : PySem.W.nsIn K mainGlobals "_law_wide" = some (some (.ref f6))) (l6 : K.lookup f6 = some ⟨oc6, od6, .func (PySem.W.fnOf "_law_wide" "_law_wide" (defArgs wU) (defBody wU) (defScope wU) .none kV6 dc6 pm6 an6 cd6 ct6), sl6⟩) (c6 : PySem.W.codeIn K cd6 "_law_wide" = true) (k6 : PySem.W.keepIn K (.ref f6) = true)
    {f7 : Addr} {od7 an7 : Option Addr} {sl7 : Array (Option Value)} {oc7 kV7 dc7 pm7 cd7 ct7 : Value}
    (a7 : PySem.W.nsIn K mainGlobals "_law_leaf" = some (some (.ref f7))) (l7 : K.lookup f7 = some ⟨oc7, od7, .func (PySem.W.fnOf "_law_leaf" "_law_leaf" (defArgs jN) (defBody jN) (defScope jN) .none kV7 dc7 pm7 an7 cd7 ct7), sl7⟩) (c7 : PySem.W.codeIn K cd7 "_law_leaf" = true) (k7 : PySem.W.keepIn K (.ref f7) = true)
    {f8 : Addr} {od8 an8 : Option Addr} {sl8 : Array (Option Value)} {oc8 kV8 dc8 pm8 cd8 ct8 : Value}
    (a8 : PySem.W.nsIn K mainGlobals "_law_any_row" = some (some (.ref f8))) (l8 : K.lookup f8 = some ⟨oc8, od8, .func (PySem.W.fnOf "_law_any_row" "_law_any_row" (defArgs jC) (defBody jC) (defScope jC) .none kV8 dc8 pm8 an8 cd8 ct8), sl8⟩) (c8 : PySem.W.codeIn K cd8 "_law_any_row" = true) (k8 : PySem.W.keepIn K (.ref f8) = true)
    {f9 : Addr} {od9 an9 : Option Addr} {sl9 : Array (Option Value)} {oc9 kV9 dc9 pm9 cd9 ct9 : Value}
    (a9 : PySem.W.nsIn K mainGlobals "places" = some (some (.ref f9))) (l9 : K.lookup f9 = some ⟨oc9, od9, .func (PySem.W.fnOf "places" "places" (defArgs yY) (defBody yY) (defScope yY) .none kV9 dc9 pm9 an9 cd9 ct9), sl9⟩) (c9 : PySem.W.codeIn K cd9 "places" = true) (k9 : PySem.W.keepIn K (.ref f9) = true)
    {f10 : Addr} {qdk zdk : Option Addr} {jdk : Array (Option Value)} {wdk vdk ydk xdk wc8 kdk : Value}
    (a10 : PySem.W.nsIn K mainGlobals "number_of" = some (some (.ref f10))) (l10 : K.lookup f10 = some ⟨wdk, qdk, .func (PySem.W.fnOf "number_of" "number_of" (defArgs vU) (defBody vU) (defScope vU) .none vdk ydk xdk zdk wc8 kdk), jdk⟩) (c10 : PySem.W.codeIn K wc8 "number_of" = true) (k10 : PySem.W.keepIn K (.ref f10) = true)
    {f11 : Addr} {qdl zdl : Option Addr} {jdl : Array (Option Value)} {wdl vdl ydl xdl vc8 kdl : Value}
    (a11 : PySem.W.nsIn K mainGlobals "read_front" = some (some (.ref f11))) (l11 : K.lookup f11 = some ⟨wdl, qdl, .func (PySem.W.fnOf "read_front" "read_front" (defArgs zR) (defBody zR) (defScope zR) .none vdl ydl xdl zdl vc8 kdl), jdl⟩) (c11 : PySem.W.codeIn K vc8 "read_front" = true) (k11 : PySem.W.keepIn K (.ref f11) = true)
    {f12 : Addr} {qdm zdm : Option Addr} {jdm : Array (Option Value)} {wdm vdm ydm xdm yc8 kdm : Value}
    (a12 : PySem.W.nsIn K mainGlobals "end_of_steps" = some (some (.ref f12))) (l12 : K.lookup f12 = some ⟨wdm, qdm, .func (PySem.W.fnOf "end_of_steps" "end_of_steps" (defArgs yH) (defBody yH) (defScope yH) .none vdm ydm xdm zdm yc8 kdm), jdm⟩) (c12 : PySem.W.codeIn K yc8 "end_of_steps" = true) (k12 : PySem.W.keepIn K (.ref f12) = true)
    {f13 : Addr} {qdn zdn : Option Addr} {jdn : Array (Option Value)} {wdn vdn ydn xdn xc8 kdn : Value}
    (a13 : PySem.W.nsIn K mainGlobals "get_steps" = some (some (.ref f13))) (l13 : K.lookup f13 = some ⟨wdn, qdn, .func (PySem.W.fnOf "get_steps" "get_steps" (defArgs yU) (defBody yU) (defScope yU) .none vdn ydn xdn zdn xc8 kdn), jdn⟩) (c13 : PySem.W.codeIn K xc8 "get_steps" = true) (k13 : PySem.W.keepIn K (.ref f13) = true)
    {f14 : Addr} {qdo zdo : Option Addr} {jdo : Array (Option Value)} {wdo vdo ydo xdo kc8 kdo : Value}
    (a14 : PySem.W.nsIn K mainGlobals "step_up_to" = some (some (.ref f14))) (l14 : K.lookup f14 = some ⟨wdo, qdo, .func (PySem.W.fnOf "step_up_to" "step_up_to" (defArgs jR) (defBody jR) (defScope jR) .none vdo ydo xdo zdo kc8 kdo), jdo⟩) (c14 : PySem.W.codeIn K kc8 "step_up_to" = true) (k14 : PySem.W.keepIn K (.ref f14) = true)
    {f15 : Addr} {qdp zdp : Option Addr} {jdp : Array (Option Value)} {wdp vdp ydp xdp qc9 kdp : Value}
    (a15 : PySem.W.nsIn K mainGlobals "read_place" = some (some (.ref f15))) (l15 : K.lookup f15 = some ⟨wdp, qdp, .func (PySem.W.fnOf "read_place" "read_place" (defArgs wR) (defBody wR) (defScope wR) .none vdp ydp xdp zdp qc9 kdp), jdp⟩) (c15 : PySem.W.codeIn K qc9 "read_place" = true) (k15 : PySem.W.keepIn K (.ref f15) = true)
    {f16 : Addr} {qdq zdq : Option Addr} {jdq : Array (Option Value)} {wdq vdq ydq xdq zc9 kdq : Value}
    (a16 : PySem.W.nsIn K mainGlobals "read_body" = some (some (.ref f16))) (l16 : K.lookup f16 = some ⟨wdq, qdq, .func (PySem.W.fnOf "read_body" "read_body" (defArgs xU) (defBody xU) (defScope xU) .none vdq ydq xdq zdq zc9 kdq), jdq⟩) (c16 : PySem.W.codeIn K zc9 "read_body" = true) (k16 : PySem.W.keepIn K (.ref f16) = true)
    {f17 : Addr} {qdr zdr : Option Addr} {jdr : Array (Option Value)} {wdr vdr ydr xdr jc9 kdr : Value}
    (a17 : PySem.W.nsIn K mainGlobals "four_bytes" = some (some (.ref f17))) (l17 : K.lookup f17 = some ⟨wdr, qdr, .func (PySem.W.fnOf "four_bytes" "four_bytes" (defArgs vR) (defBody vR) (defScope vR) .none vdr ydr xdr zdr jc9 kdr), jdr⟩) (c17 : PySem.W.codeIn K jc9 "four_bytes" = true) (k17 : PySem.W.keepIn K (.ref f17) = true)
    {f18 : Addr} {qds zds : Option Addr} {jds : Array (Option Value)} {wds vds yds xds wc9 kds : Value}
    (a18 : PySem.W.nsIn K mainGlobals "checksum_on" = some (some (.ref f18))) (l18 : K.lookup f18 = some ⟨wds, qds, .func (PySem.W.fnOf "checksum_on" "checksum_on" (defArgs zL) (defBody zL) (defScope zL) .none vds yds xds zds wc9 kds), jds⟩) (c18 : PySem.W.codeIn K wc9 "checksum_on" = true) (k18 : PySem.W.keepIn K (.ref f18) = true)
    {f19 : Addr} {qdt zdt : Option Addr} {jdt : Array (Option Value)} {wdt vdt ydt xdt vc9 kdt : Value}
    (a19 : PySem.W.nsIn K mainGlobals "checksum" = some (some (.ref f19))) (l19 : K.lookup f19 = some ⟨wdt, qdt, .func (PySem.W.fnOf "checksum" "checksum" (defArgs j5) (defBody j5) (defScope j5) .none vdt ydt xdt zdt vc9 kdt), jdt⟩) (c19 : PySem.W.codeIn K vc9 "checksum" = true) (k19 : PySem.W.keepIn K (.ref f19) = true)
    {f20 : Addr} {qdu zdu : Option Addr} {jdu : Array (Option Value)} {wdu vdu ydu xdu yc9 kdu : Value}
    (a20 : PySem.W.nsIn K mainGlobals "read_leaf" = some (some (.ref f20))) (l20 : K.lookup f20 = some ⟨wdu, qdu, .func (PySem.W.fnOf "read_leaf" "read_leaf" (defArgs kU) (defBody kU) (defScope kU) .none vdu ydu xdu zdu yc9 kdu), jdu⟩) (c20 : PySem.W.codeIn K yc9 "read_leaf" = true) (k20 : PySem.W.keepIn K (.ref f20) = true)
    {f21 : Addr} {qdv zdv : Option Addr} {jdv : Array (Option Value)} {wdv vdv ydv xdv xc9 kdv : Value}
    (a21 : PySem.W.nsIn K mainGlobals "unstuff" = some (some (.ref f21))) (l21 : K.lookup f21 = some ⟨wdv, qdv, .func (PySem.W.fnOf "unstuff" "unstuff" (defArgs qad) (defBody qad) (defScope qad) .none vdv ydv xdv zdv xc9 kdv), jdv⟩) (c21 : PySem.W.codeIn K xc9 "unstuff" = true) (k21 : PySem.W.keepIn K (.ref f21) = true)
    {f22 : Addr} {qdw zdw : Option Addr} {jdw : Array (Option Value)} {wdw vdw ydw xdw kc9 kdw : Value}
    (a22 : PySem.W.nsIn K mainGlobals "salvage" = some (some (.ref f22))) (l22 : K.lookup f22 = some ⟨wdw, qdw, .func (PySem.W.fnOf "salvage" "salvage" (defArgs zad) (defBody zad) (defScope zad) .none vdw ydw xdw zdw kc9 kdw), jdw⟩) (c22 : PySem.W.codeIn K kc9 "salvage" = true) (k22 : PySem.W.keepIn K (.ref f22) = true)
    {f23 : Addr} {qdx zdx : Option Addr} {jdx : Array (Option Value)} {wdx vdx ydx xdx qda kdx : Value}
    (a23 : PySem.W.nsIn K mainGlobals "_law_row_of" = some (some (.ref f23))) (l23 : K.lookup f23 = some ⟨wdx, qdx, .func (PySem.W.fnOf "_law_row_of" "_law_row_of" (defArgs jL) (defBody jL) (defScope jL) .none vdx ydx xdx zdx qda kdx), jdx⟩) (c23 : PySem.W.codeIn K qda "_law_row_of" = true) (k23 : PySem.W.keepIn K (.ref f23) = true)
    {f24 : Addr} {qdy zdy : Option Addr} {jdy : Array (Option Value)} {wdy vdy ydy xdy zda kdy : Value}
    (a24 : PySem.W.nsIn K mainGlobals "_law_number" = some (some (.ref f24))) (l24 : K.lookup f24 = some ⟨wdy, qdy, .func (PySem.W.fnOf "_law_number" "_law_number" (defArgs wL) (defBody wL) (defScope wL) .none vdy ydy xdy zdy zda kdy), jdy⟩) (c24 : PySem.W.codeIn K zda "_law_number" = true) (k24 : PySem.W.keepIn K (.ref f24) = true)
    {f25 : Addr} {qdz zdz : Option Addr} {jdz : Array (Option Value)} {wdz vdz ydz xdz jda kdz : Value}
    (a25 : PySem.W.nsIn K mainGlobals "_law_leaf_of" = some (some (.ref f25))) (l25 : K.lookup f25 = some ⟨wdz, qdz, .func (PySem.W.fnOf "_law_leaf_of" "_law_leaf_of" (defArgs ky) (defBody ky) (defScope ky) .none vdz ydz xdz zdz jda kdz), jdz⟩) (c25 : PySem.W.codeIn K jda "_law_leaf_of" = true) (k25 : PySem.W.keepIn K (.ref f25) = true)
    {f26 : Addr} {qdA zdA : Option Addr} {jdA : Array (Option Value)} {wdA vdA ydA xdA wda kdA : Value}
    (a26 : PySem.W.nsIn K mainGlobals "_law_finds" = some (some (.ref f26))) (l26 : K.lookup f26 = some ⟨wdA, qdA, .func (PySem.W.fnOf "_law_finds" "_law_finds" (defArgs vJ) (defBody vJ) (defScope vJ) .none vdA ydA xdA zdA wda kdA), jdA⟩) (c26 : PySem.W.codeIn K wda "_law_finds" = true) (k26 : PySem.W.keepIn K (.ref f26) = true)
    {f27 : Addr} {qdB zdB : Option Addr} {jdB : Array (Option Value)} {wdB vdB ydB xdB yda kdB : Value}
    (a27 : PySem.W.nsIn K mainGlobals "law" = some (some (.ref f27))) (l27 : K.lookup f27 = some ⟨wdB, qdB, .func (PySem.W.fnOf "law" "law" (defArgs xbb) (defBody xbb) (defScope xbb) .none vdB ydB xdB zdB yda kdB), jdB⟩) (c27 : PySem.W.codeIn K yda "law" = true) (k27 : PySem.W.keepIn K (.ref f27) = true)
    (zq : PySem.W.nsIn K mainGlobals "range" = some none)
    (vbl : PySem.W.nsIn K mainGlobals "min" = some none)
    (jr : PySem.W.nsIn K mainGlobals "len" = some none)
    (ybl : PySem.W.nsIn K mainGlobals "abs" = some none)
    (vaa : PySem.W.nsIn K mainGlobals "int" = some none)
    (v7 : PySem.W.nsIn K mainGlobals "enumerate" = some none)
    (xbl : PySem.W.nsIn K mainGlobals "zip" = some none)
    (ybb : PySem.W.nsIn K mainGlobals "sum" = some none)
    (jaz : PySem.W.nsIn K mainGlobals "tuple" = some none)
    (qaB : PySem.W.nsIn K mainGlobals "list" = some none)
    (jI : PySem.W.nsIn K mainGlobals "isinstance" = some none)
    {ycg : Tok} (zcg : PySem.W.nsIn K mainGlobals "END" = some (some (.int 4 ycg)))
    {wbs : Tok} (vbr : PySem.W.nsIn K mainGlobals "FRONT" = some (some (.int 9 wbs)))
    {xaG : Tok} (zaB : PySem.W.nsIn K mainGlobals "MOST_STEPS" = some (some (.int 6 xaG)))
    {kaG : Tok} (jaB : PySem.W.nsIn K mainGlobals "STEP_LIMIT" = some (some (.int 1099511627776 kaG)))
    {vaP : Tok} (qaL : PySem.W.nsIn K mainGlobals "TOP_TRACK" = some (some (.int 15 vaP)))
    {zav : Tok} (qar : PySem.W.nsIn K mainGlobals "TOP_ORDINAL" = some (some (.int 16777215 zav)))
    {qa0 : Tok} (xaU : PySem.W.nsIn K mainGlobals "TOP_TIME" = some (some (.int 1099511627775 qa0)))
    {za0 : Tok} (kaU : PySem.W.nsIn K mainGlobals "TOP_SPAN" = some (some (.int 16777215 za0)))
    {ja0 : Tok} (qaV : PySem.W.nsIn K mainGlobals "TOP_BODY" = some (some (.int 1024 ja0)))
    {qaH : Addr} {zcw : Option Addr} {jcw : Nat} {wcw : Array (Option Value)} {vci yci xci kci qcj zcj jcj wcj vcj ycj xb1 qb2 zb2 jb2 wb2 vb2 : Tok} (wbg : PySem.W.nsIn K mainGlobals "HALVES" = some (some (.ref qaH))) (vbg : K.lookup qaH = some ⟨.type "tuple", zcw, .seq #[.int 0 vci, .int 498536548 yci, .int 997073096 xci, .int 651767980 kci, .int 1994146192 qcj, .int 1802195444 zcj, .int 1303535960 jcj, .int 1342533948 wcj, .int 3988292384 vcj, .int 4027552580 ycj, .int 3604390888 xb1, .int 3412177804 qb2, .int 2607071920 zb2, .int 2262029012 jb2, .int 2685067896 wb2, .int 3183342108 vb2] jcw, wcw⟩)
    {qa9 : Tok} (qa6 : PySem.W.nsIn K mainGlobals "TOP_KEY" = some (some (.int 1 qa9)))
    {xbQ : Tok} (wbP : PySem.W.nsIn K mainGlobals "FULL" = some (some (.int 255 xbQ)))
    {fI : Addr} {odI anI : Option Addr} {slI : Array (Option Value)} {ocI kVI dcI pmI cdI ctI : Value} (lI : K.lookup fI = some ⟨ocI, odI, .func (PySem.W.fnOf "__init__" "SpoolboxError.__init__" (defArgs xaR) (defBody xaR) (defScope xaR) .none kVI dcI pmI anI cdI ctI), slI⟩) (cI : PySem.W.codeIn K cdI "SpoolboxError.__init__" = true) (kI : PySem.W.keepIn K (.ref fI) = true) (tI : PySem.W.typeIn K (.ref fI) = some (.type "function"))
    {js : Addr} {xcj vcw : Str} {ycw : Addr} {qck xbm : List Value} {zck : List Str} {yb2 : List Value} {jck : Bool} {xb2 : Option Bool} {wck : Option Addr} {vck yck xck kck qcl : Option Value}
    (zaV : PySem.W.nsIn K mainGlobals "BadKind" = some (some (.ref js))) (jaV : K.lookup js = some (excClassObj xcj vcw js ycw qck xbm true zck yb2 jck xb2 wck vck yck xck kck qcl "ValueError.__new__")) (waV : PySem.HandSPX.refsVE xbm = true)
    (vaV : PySem.W.findIn K (.ref js) "__setattr__" = some (some (.builtin "object.__setattr__"))) (j3 : PySem.W.subIn K (.ref js) (.type "BaseException") = some true) (yaV : PySem.W.typeIn K (.ref js) = some (.type "type")) (xaV : PySem.W.keepIn K (.ref js) = true)
    (jax : PySem.W.findIn K (.ref js) "at" = some none) (kaV : PySem.W.findIn K (.ref js) "__init__" = some (some (.ref fI))) (jaf : PySem.W.findIn K (.ref js) "__getattribute__" = some (some (.builtin "BaseException.__getattribute__"))) (waf : PySem.W.findIn K (.ref js) "__getattr__" = some none) (vaf : PySem.W.hasDictIn K js = true)
    {jo : Addr} {qb3 zcl : Str} {jcl : Addr} {zb3 kbd : List Value} {jb3 : List Str} {kbS : List Value} {wb3 : Bool} {qbT : Option Bool} {vb3 : Option Addr} {yb3 xb3 kb3 qb4 zb4 : Option Value}
    (zaL : PySem.W.nsIn K mainGlobals "BadStamp" = some (some (.ref jo))) (jaL : K.lookup jo = some (excClassObj qb3 zcl jo jcl zb3 kbd true jb3 kbS wb3 qbT vb3 yb3 xb3 kb3 qb4 zb4 "ValueError.__new__")) (waL : PySem.HandSPX.refsVE kbd = true)
    (vaL : PySem.W.findIn K (.ref jo) "__setattr__" = some (some (.builtin "object.__setattr__"))) (qU : PySem.W.subIn K (.ref jo) (.type "BaseException") = some true) (yaL : PySem.W.typeIn K (.ref jo) = some (.type "type")) (xaL : PySem.W.keepIn K (.ref jo) = true)
    (jan : PySem.W.findIn K (.ref jo) "at" = some none) (kaL : PySem.W.findIn K (.ref jo) "__init__" = some (some (.ref fI))) (y7 : PySem.W.findIn K (.ref jo) "__getattribute__" = some (some (.builtin "BaseException.__getattribute__"))) (q8 : PySem.W.findIn K (.ref jo) "__getattr__" = some none) (j8 : PySem.W.hasDictIn K jo = true)
    {km : Addr} {zbT jb4 : Str} {wb4 : Addr} {jbT wa9 : List Value} {wbT : List Str} {kbB : List Value} {vbT : Bool} {qbC : Option Bool} {ybT : Option Addr} {xbT kbT qbU zbU jbU : Option Value}
    (waB : PySem.W.nsIn K mainGlobals "BadNumber" = some (some (.ref km))) (vaB : K.lookup km = some (excClassObj zbT jb4 km wb4 jbT wa9 true wbT kbB vbT qbC ybT xbT kbT qbU zbU jbU "ValueError.__new__")) (yaB : PySem.HandSPX.refsVE wa9 = true)
    (xaB : PySem.W.findIn K (.ref km) "__setattr__" = some (some (.builtin "object.__setattr__"))) (yP : PySem.W.subIn K (.ref km) (.type "BaseException") = some true) (kaB : PySem.W.typeIn K (.ref km) = some (.type "type")) (qaC : PySem.W.keepIn K (.ref km) = true)
    (yaf : PySem.W.findIn K (.ref km) "at" = some none) (zaC : PySem.W.findIn K (.ref km) "__init__" = some (some (.ref fI))) (vX : PySem.W.findIn K (.ref km) "__getattribute__" = some (some (.builtin "BaseException.__getattribute__"))) (yX : PySem.W.findIn K (.ref km) "__getattr__" = some none) (xX : PySem.W.hasDictIn K km = true)
    {qi : Addr} {wbU vb4 : Str} {yb4 : Addr} {vbU va9 : List Value} {ybU : List Str} {zbC : List Value} {xbU : Bool} {jbC : Option Bool} {kbU : Option Addr} {qbV zbV jbV wbV vbV : Option Value}
    (xaf : PySem.W.nsIn K mainGlobals "Truncated" = some (some (.ref qi))) (jaC : K.lookup qi = some (excClassObj wbU vb4 qi yb4 vbU va9 true ybU zbC xbU jbC kbU qbV zbV jbV wbV vbV "ValueError.__new__")) (waC : PySem.HandSPX.refsVE va9 = true)
    (vaC : PySem.W.findIn K (.ref qi) "__setattr__" = some (some (.builtin "object.__setattr__"))) (xP : PySem.W.subIn K (.ref qi) (.type "BaseException") = some true) (yaC : PySem.W.typeIn K (.ref qi) = some (.type "type")) (xaC : PySem.W.keepIn K (.ref qi) = true)
    (kaf : PySem.W.findIn K (.ref qi) "at" = some none) (kaC : PySem.W.findIn K (.ref qi) "__init__" = some (some (.ref fI))) (kX : PySem.W.findIn K (.ref qi) "__getattribute__" = some (some (.builtin "BaseException.__getattribute__"))) (qY : PySem.W.findIn K (.ref qi) "__getattr__" = some none) (zY : PySem.W.hasDictIn K qi = true)
    {jh : Addr} {wbC ybV : Str} {xbV : Addr} {vbC va1 : List Value} {ybC : List Str} {xbt : List Value} {xbC : Bool} {kbt : Option Bool} {kbC : Option Addr} {qbD zbD jbD wbD vbD : Option Value}
    (yaa : PySem.W.nsIn K mainGlobals "OutOfRange" = some (some (.ref jh))) (zar : K.lookup jh = some (excClassObj wbC ybV jh xbV vbC va1 true ybC xbt xbC kbt kbC qbD zbD jbD wbD vbD "ValueError.__new__")) (jar : PySem.HandSPX.refsVE va1 = true)
    (war : PySem.W.findIn K (.ref jh) "__setattr__" = some (some (.builtin "object.__setattr__"))) (xK : PySem.W.subIn K (.ref jh) (.type "BaseException") = some true) (yar : PySem.W.typeIn K (.ref jh) = some (.type "type")) (xar : PySem.W.keepIn K (.ref jh) = true)
    (xaa : PySem.W.findIn K (.ref jh) "at" = some none) (kar : PySem.W.findIn K (.ref jh) "__init__" = some (some (.ref fI))) (qT : PySem.W.findIn K (.ref jh) "__getattribute__" = some (some (.builtin "BaseException.__getattribute__"))) (zT : PySem.W.findIn K (.ref jh) "__getattr__" = some none) (jT : PySem.W.hasDictIn K jh = true)
    {vg : Addr} {qbu ybD : Str} {xbD : Addr} {zbu yaS : List Value} {jbu : List Str} {kbm : List Value} {wbu : Bool} {qbn : Option Bool} {vbu : Option Addr} {ybu xbu kbu qbv zbv : Option Value}
    (v3 : PySem.W.nsIn K mainGlobals "LooseNumber" = some (some (.ref vg))) (zaj : K.lookup vg = some (excClassObj qbu ybD vg xbD zbu yaS true jbu kbm wbu qbn vbu ybu xbu kbu qbv zbv "ValueError.__new__")) (jaj : PySem.HandSPX.refsVE yaS = true)
    (waj : PySem.W.findIn K (.ref vg) "__setattr__" = some (some (.builtin "object.__setattr__"))) (jH : PySem.W.subIn K (.ref vg) (.type "BaseException") = some true) (vaj : PySem.W.typeIn K (.ref vg) = some (.type "type")) (yaj : PySem.W.keepIn K (.ref vg) = true)
    (y3 : PySem.W.findIn K (.ref vg) "at" = some none) (xaj : PySem.W.findIn K (.ref vg) "__init__" = some (some (.ref fI))) (kP : PySem.W.findIn K (.ref vg) "__getattribute__" = some (some (.builtin "BaseException.__getattribute__"))) (qQ : PySem.W.findIn K (.ref vg) "__getattr__" = some none) (zQ : PySem.W.hasDictIn K vg = true)
    {wo : Addr} {xb4 wcl : Str} {vcl : Addr} {kb4 qbe : List Value} {qb5 : List Str} {kbV : List Value} {zb5 : Bool} {qbW : Option Bool} {jb5 : Option Addr} {wb5 vb5 yb5 xb5 kb5 : Option Value}
    (qaM : PySem.W.nsIn K mainGlobals "BadTrack" = some (some (.ref wo))) (zaM : K.lookup wo = some (excClassObj xb4 wcl wo vcl kb4 qbe true qb5 kbV zb5 qbW jb5 wb5 vb5 yb5 xb5 kb5 "ValueError.__new__")) (jaM : PySem.HandSPX.refsVE qbe = true)
    (waM : PySem.W.findIn K (.ref wo) "__setattr__" = some (some (.builtin "object.__setattr__"))) (zU : PySem.W.subIn K (.ref wo) (.type "BaseException") = some true) (vaM : PySem.W.typeIn K (.ref wo) = some (.type "type")) (yaM : PySem.W.keepIn K (.ref wo) = true)
    (wan : PySem.W.findIn K (.ref wo) "at" = some none) (xaM : PySem.W.findIn K (.ref wo) "__init__" = some (some (.ref fI))) (w8 : PySem.W.findIn K (.ref wo) "__getattribute__" = some (some (.builtin "BaseException.__getattribute__"))) (v8 : PySem.W.findIn K (.ref wo) "__getattr__" = some none) (y8 : PySem.W.hasDictIn K wo = true)
    {vl : Addr} {kbD zbW : Str} {jbW : Addr} {qbE ya1 : List Value} {zbE : List Str} {jbv : List Value} {jbE : Bool} {wbv : Option Bool} {wbE : Option Addr} {vbE ybE xbE kbE qbF : Option Value}
    (qas : PySem.W.nsIn K mainGlobals "BadOrdinal" = some (some (.ref vl))) (zas : K.lookup vl = some (excClassObj kbD zbW vl jbW qbE ya1 true zbE jbv jbE wbv wbE vbE ybE xbE kbE qbF "ValueError.__new__")) (jas : PySem.HandSPX.refsVE ya1 = true)
    (vas : PySem.W.findIn K (.ref vl) "__setattr__" = some (some (.builtin "object.__setattr__"))) (kK : PySem.W.subIn K (.ref vl) (.type "BaseException") = some true) (yas : PySem.W.typeIn K (.ref vl) = some (.type "type")) (xas : PySem.W.keepIn K (.ref vl) = true)
    (kaa : PySem.W.findIn K (.ref vl) "at" = some none) (kas : PySem.W.findIn K (.ref vl) "__init__" = some (some (.ref fI))) (vT : PySem.W.findIn K (.ref vl) "__getattribute__" = some (some (.builtin "BaseException.__getattribute__"))) (yT : PySem.W.findIn K (.ref vl) "__getattr__" = some none) (xT : PySem.W.hasDictIn K vl = true)
    {qt : Addr} {ycl xcw : Str} {kcw : Addr} {xcl zbn : List Value} {kcl : List Str} {qb6 : List Value} {qcm : Bool} {zb6 : Option Bool} {zcm : Option Addr} {jcm wcm vcm ycm xcm : Option Value}
    (qaW : PySem.W.nsIn K mainGlobals "BadTime" = some (some (.ref qt))) (zaW : K.lookup qt = some (excClassObj ycl xcw qt kcw xcl zbn true kcl qb6 qcm zb6 zcm jcm wcm vcm ycm xcm "ValueError.__new__")) (jaW : PySem.HandSPX.refsVE zbn = true)
    (waW : PySem.W.findIn K (.ref qt) "__setattr__" = some (some (.builtin "object.__setattr__"))) (j4 : PySem.W.subIn K (.ref qt) (.type "BaseException") = some true) (vaW : PySem.W.typeIn K (.ref qt) = some (.type "type")) (yaW : PySem.W.keepIn K (.ref qt) = true)
    (wax : PySem.W.findIn K (.ref qt) "at" = some none) (xaW : PySem.W.findIn K (.ref qt) "__init__" = some (some (.ref fI))) (qag : PySem.W.findIn K (.ref qt) "__getattribute__" = some (some (.builtin "BaseException.__getattribute__"))) (zag : PySem.W.findIn K (.ref qt) "__getattr__" = some none) (jag : PySem.W.hasDictIn K qt = true)
    {zt : Addr} {kcm qcx : Str} {zcx : Addr} {qcn jbn : List Value} {zcn : List Str} {jb6 : List Value} {jcn : Bool} {wb6 : Option Bool} {wcn : Option Addr} {vcn ycn xcn kcn qco : Option Value}
    (kaW : PySem.W.nsIn K mainGlobals "BadSpan" = some (some (.ref zt))) (qaX : K.lookup zt = some (excClassObj kcm qcx zt zcx qcn jbn true zcn jb6 jcn wb6 wcn vcn ycn xcn kcn qco "ValueError.__new__")) (zaX : PySem.HandSPX.refsVE jbn = true)
    (jaX : PySem.W.findIn K (.ref zt) "__setattr__" = some (some (.builtin "object.__setattr__"))) (y4 : PySem.W.subIn K (.ref zt) (.type "BaseException") = some true) (waX : PySem.W.typeIn K (.ref zt) = some (.type "type")) (vaX : PySem.W.keepIn K (.ref zt) = true)
    (vax : PySem.W.findIn K (.ref zt) "at" = some none) (yaX : PySem.W.findIn K (.ref zt) "__init__" = some (some (.ref fI))) (wag : PySem.W.findIn K (.ref zt) "__getattribute__" = some (some (.builtin "BaseException.__getattribute__"))) (vag : PySem.W.findIn K (.ref zt) "__getattr__" = some none) (yag : PySem.W.hasDictIn K zt = true)
    {jt : Addr} {zco jcx : Str} {wcx : Addr} {jco wbn : List Value} {wco : List Str} {vb6 : List Value} {vco : Bool} {yb6 : Option Bool} {yco : Option Addr} {xco kco qcp zcp jcp : Option Value}
    (xaX : PySem.W.nsIn K mainGlobals "BadSize" = some (some (.ref jt))) (kaX : K.lookup jt = some (excClassObj zco jcx jt wcx jco wbn true wco vb6 vco yb6 yco xco kco qcp zcp jcp "ValueError.__new__")) (qaY : PySem.HandSPX.refsVE wbn = true)
    (zaY : PySem.W.findIn K (.ref jt) "__setattr__" = some (some (.builtin "object.__setattr__"))) (q5 : PySem.W.subIn K (.ref jt) (.type "BaseException") = some true) (jaY : PySem.W.typeIn K (.ref jt) = some (.type "type")) (waY : PySem.W.keepIn K (.ref jt) = true)
    (yax : PySem.W.findIn K (.ref jt) "at" = some none) (vaY : PySem.W.findIn K (.ref jt) "__init__" = some (some (.ref fI))) (xag : PySem.W.findIn K (.ref jt) "__getattribute__" = some (some (.builtin "BaseException.__getattribute__"))) (kag : PySem.W.findIn K (.ref jt) "__getattr__" = some none) (qah : PySem.W.hasDictIn K jt = true)
    {jn : Addr} {wbW xb6 : Str} {kb6 : Addr} {vbW ya9 : List Value} {ybW : List Str} {zbF : List Value} {xbW : Bool} {jbF : Option Bool} {kbW : Option Addr} {qbX zbX jbX wbX vbX : Option Value}
    (qaD : PySem.W.nsIn K mainGlobals "ShortBody" = some (some (.ref jn))) (zaD : K.lookup jn = some (excClassObj wbW xb6 jn kb6 vbW ya9 true ybW zbF xbW jbF kbW qbX zbX jbX wbX vbX "ValueError.__new__")) (jaD : PySem.HandSPX.refsVE ya9 = true)
    (waD : PySem.W.findIn K (.ref jn) "__setattr__" = some (some (.builtin "object.__setattr__"))) (jQ : PySem.W.subIn K (.ref jn) (.type "BaseException") = some true) (vaD : PySem.W.typeIn K (.ref jn) = some (.type "type")) (yaD : PySem.W.keepIn K (.ref jn) = true)
    (zah : PySem.W.findIn K (.ref jn) "at" = some none) (xaD : PySem.W.findIn K (.ref jn) "__init__" = some (some (.ref fI))) (jY : PySem.W.findIn K (.ref jn) "__getattribute__" = some (some (.builtin "BaseException.__getattribute__"))) (wY : PySem.W.findIn K (.ref jn) "__getattr__" = some none) (vY : PySem.W.hasDictIn K jn = true)
    {vv : Addr} {vcx kcE : Str} {qcF : Addr} {ycx zbz : List Value} {xcx : List Str} {wcp : List Value} {kcx : Bool} {vcp : Option Bool} {qcy : Option Addr} {zcy jcy wcy vcy ycy : Option Value}
    (za6 : PySem.W.nsIn K mainGlobals "BadKey" = some (some (.ref vv))) (ja6 : K.lookup vv = some (excClassObj vcx kcE vv qcF ycx zbz true xcx wcp kcx vcp qcy zcy jcy wcy vcy ycy "ValueError.__new__")) (wa6 : PySem.HandSPX.refsVE zbz = true)
    (va6 : PySem.W.findIn K (.ref vv) "__setattr__" = some (some (.builtin "object.__setattr__"))) (xac : PySem.W.subIn K (.ref vv) (.type "BaseException") = some true) (ya6 : PySem.W.typeIn K (.ref vv) = some (.type "type")) (xa6 : PySem.W.keepIn K (.ref vv) = true)
    (vaJ : PySem.W.findIn K (.ref vv) "at" = some none) (ka6 : PySem.W.findIn K (.ref vv) "__init__" = some (some (.ref fI))) (xap : PySem.W.findIn K (.ref vv) "__getattribute__" = some (some (.builtin "BaseException.__getattribute__"))) (kap : PySem.W.findIn K (.ref vv) "__getattr__" = some none) (qaq : PySem.W.hasDictIn K vv = true)
    {vo : Addr} {qb7 ycp : Str} {xcp : Addr} {zb7 zbe : List Value} {jb7 : List Str} {ybX : List Value} {wb7 : Bool} {xbX : Option Bool} {vb7 : Option Addr} {yb7 xb7 kb7 qb8 zb8 : Option Value}
    (kaM : PySem.W.nsIn K mainGlobals "BadCheck" = some (some (.ref vo))) (qaN : K.lookup vo = some (excClassObj qb7 ycp vo xcp zb7 zbe true jb7 ybX wb7 xbX vb7 yb7 xb7 kb7 qb8 zb8 "ValueError.__new__")) (zaN : PySem.HandSPX.refsVE zbe = true)
    (jaN : PySem.W.findIn K (.ref vo) "__setattr__" = some (some (.builtin "object.__setattr__"))) (jU : PySem.W.subIn K (.ref vo) (.type "BaseException") = some true) (waN : PySem.W.typeIn K (.ref vo) = some (.type "type")) (vaN : PySem.W.keepIn K (.ref vo) = true)
    (van : PySem.W.findIn K (.ref vo) "at" = some none) (yaN : PySem.W.findIn K (.ref vo) "__init__" = some (some (.ref fI))) (q9 : PySem.W.findIn K (.ref vo) "__getattribute__" = some (some (.builtin "BaseException.__getattribute__"))) (z9 : PySem.W.findIn K (.ref vo) "__getattr__" = some none) (j9 : PySem.W.hasDictIn K vo = true)
    {yj : Addr} {vbv wbF : Str} {vbF : Addr} {ybv xaS : List Value} {xbv : List Str} {vbn : List Value} {kbv : Bool} {ybn : Option Bool} {qbw : Option Addr} {zbw jbw wbw vbw ybw : Option Value}
    (kaj : PySem.W.nsIn K mainGlobals "BadStuffing" = some (some (.ref yj))) (qak : K.lookup yj = some (excClassObj vbv wbF yj vbF ybv xaS true xbv vbn kbv ybn qbw zbw jbw wbw vbw ybw "ValueError.__new__")) (zak : PySem.HandSPX.refsVE xaS = true)
    (jak : PySem.W.findIn K (.ref yj) "__setattr__" = some (some (.builtin "object.__setattr__"))) (wH : PySem.W.subIn K (.ref yj) (.type "BaseException") = some true) (wak : PySem.W.typeIn K (.ref yj) = some (.type "type")) (vak : PySem.W.keepIn K (.ref yj) = true)
    (z5 : PySem.W.findIn K (.ref yj) "at" = some none) (yak : PySem.W.findIn K (.ref yj) "__init__" = some (some (.ref fI))) (wQ : PySem.W.findIn K (.ref yj) "__getattribute__" = some (some (.builtin "BaseException.__getattribute__"))) (vQ : PySem.W.findIn K (.ref yj) "__getattr__" = some none) (yQ : PySem.W.hasDictIn K yj = true)
    {xh : Addr} (vab : PySem.W.nsIn K mainGlobals "SpoolboxError" = some (some (.ref xh)))
    (yn : PySem.W.specialIn K (.builtin "object.__class__") "__get__" = some (some (.builtin "getset_descriptor.__get__"))) (yt : PySem.W.takesIn K (.builtin "object.__class__") = some true)
    (kaD : PySem.W.findIn K (.ref qi) "__class__" = some (some (.builtin "object.__class__"))) (qaE : PySem.W.mroIn K qi (.type "object") = some true)
    (xak : PySem.W.findIn K (.ref vg) "__class__" = some (some (.builtin "object.__class__"))) (kak : PySem.W.mroIn K vg (.type "object") = some true)
    (qat : PySem.W.findIn K (.ref jh) "__class__" = some (some (.builtin "object.__class__"))) (zat : PySem.W.mroIn K jh (.type "object") = some true)
    (xaN : PySem.W.findIn K (.ref vo) "__class__" = some (some (.builtin "object.__class__"))) (kaN : PySem.W.mroIn K vo (.type "object") = some true)
    (zaE : PySem.W.findIn K (.ref jn) "__class__" = some (some (.builtin "object.__class__"))) (jaE : PySem.W.mroIn K jn (.type "object") = some true)
    (yaY : PySem.W.findIn K (.ref jt) "__class__" = some (some (.builtin "object.__class__"))) (xaY : PySem.W.mroIn K jt (.type "object") = some true)
    (qa7 : PySem.W.findIn K (.ref vv) "__class__" = some (some (.builtin "object.__class__"))) (za7 : PySem.W.mroIn K vv (.type "object") = some true)
    (kaY : PySem.W.findIn K (.ref zt) "__class__" = some (some (.builtin "object.__class__"))) (qaZ : PySem.W.mroIn K zt (.type "object") = some true)
    (zaZ : PySem.W.findIn K (.ref qt) "__class__" = some (some (.builtin "object.__class__"))) (jaZ : PySem.W.mroIn K qt (.type "object") = some true)
    (jat : PySem.W.findIn K (.ref vl) "__class__" = some (some (.builtin "object.__class__"))) (wat : PySem.W.mroIn K vl (.type "object") = some true)
    (qaO : PySem.W.findIn K (.ref wo) "__class__" = some (some (.builtin "object.__class__"))) (zaO : PySem.W.mroIn K wo (.type "object") = some true)
    (waE : PySem.W.findIn K (.ref km) "__class__" = some (some (.builtin "object.__class__"))) (vaE : PySem.W.mroIn K km (.type "object") = some true)
    (jaO : PySem.W.findIn K (.ref jo) "__class__" = some (some (.builtin "object.__class__"))) (waO : PySem.W.mroIn K jo (.type "object") = some true)
    (waZ : PySem.W.findIn K (.ref js) "__class__" = some (some (.builtin "object.__class__"))) (vaZ : PySem.W.mroIn K js (.type "object") = some true)
    (qal : PySem.W.findIn K (.ref yj) "__class__" = some (some (.builtin "object.__class__"))) (zal : PySem.W.mroIn K yj (.type "object") = some true)
    (zN : PySem.W.exmOne K (.ref qi) (.ref qi) = some true)
    (yJ : PySem.W.exmOne K (.ref qi) (.ref jh) = some false)
    (wI : PySem.W.exmOne K (.ref qi) (.ref vg) = some false)
    (vI : PySem.W.exmOne K (.ref vg) (.ref qi) = some false)
    (qG : PySem.W.exmOne K (.ref vg) (.ref jh) = some false)
    (yE : PySem.W.exmOne K (.ref vg) (.ref vg) = some true)
    (xJ : PySem.W.exmOne K (.ref jh) (.ref qi) = some false)
    (yI : PySem.W.exmOne K (.ref jh) (.ref jh) = some true)
    (zG : PySem.W.exmOne K (.ref jh) (.ref vg) = some false)
    (jG : PySem.W.exmOne K (.ref vo) (.ref xh) = some true)
    (xE : PySem.W.exmOne K (.ref jn) (.ref xh) = some true)
    (xI : PySem.W.exmOne K (.ref jt) (.ref xh) = some true)
    (kJ : PySem.W.exmOne K (.ref vv) (.ref xh) = some true)
    (qJ : PySem.W.exmOne K (.ref zt) (.ref xh) = some true)
    (zJ : PySem.W.exmOne K (.ref qt) (.ref xh) = some true)
    (vD : PySem.W.exmOne K (.ref vl) (.ref xh) = some true)
    (wG : PySem.W.exmOne K (.ref wo) (.ref xh) = some true)
    (kE : PySem.W.exmOne K (.ref km) (.ref xh) = some true)
    (vG : PySem.W.exmOne K (.ref jo) (.ref xh) = some true)
    (jJ : PySem.W.exmOne K (.ref js) (.ref xh) = some true)
    (qC : PySem.W.exmOne K (.ref yj) (.ref xh) = some true)
    (qF : PySem.W.exmOne K (.ref qi) (.ref xh) = some true)
    (zC : PySem.W.exmOne K (.ref vg) (.ref xh) = some true)
    (yD : PySem.W.exmOne K (.ref jh) (.ref xh) = some true)
    : ∃ fd : FuncData, (∀ (s : Shared) (v : Value), BindsTo s fd ⟨[v], []⟩ [("script", v)]) ∧ ∀ base : Heap, K.In base → base.Ns mainGlobals mg → FnOk P w K mg base (L2.CX P w) 9 fa fd ["script"] (DL.zce K) := by
  have e := hfa.symm.trans (PySem.W.mg_of X G a27)
  cases e
  let T : Txt K mg (fun n => match n with | 5 => js | 6 => jo | 7 => km | 3 => qi | 1 => jh | 2 => vg | 8 => wo | 9 => vl | 10 => qt | 11 => zt | 13 => jt | 14 => jn | 12 => vv | 15 => vo | 4 => yj | 0 => xh  | _ => 0) := ⟨f0, _, fun_mk l0 c0 k0, PySem.W.mg_of X G a0, (fun_mk (st := xQ) l0 c0 k0).binds (ps := ["script"]) fun _ _ _ _ _ _ us hl => match us, hl with | [_], _ => rfl, f1, _, fun_mk l1 c1 k1, PySem.W.mg_of X G a1, (fun_mk (st := kac) l1 c1 k1).binds (ps := ["draws", "k", "many"]) fun _ _ _ _ _ _ us hl => match us, hl with | [_, _, _], _ => rfl, f2, _, fun_mk l2 c2 k2, PySem.W.mg_of X G a2, (fun_mk (st := vH) l2 c2 k2).binds (ps := ["row"]) fun _ _ _ _ _ _ us hl => match us, hl with | [_], _ => rfl, f3, _, fun_mk l3 c3 k3, PySem.W.mg_of X G a3, (fun_mk (st := wJ) l3 c3 k3).binds (ps := ["number"]) fun _ _ _ _ _ _ us hl => match us, hl with | [_], _ => rfl, f4, _, fun_mk l4 c4 k4, PySem.W.mg_of X G a4, (fun_mk (st := kQ) l4 c4 k4).binds (ps := ["row"]) fun _ _ _ _ _ _ us hl => match us, hl with | [_], _ => rfl, f5, _, fun_mk l5 c5 k5, PySem.W.mg_of X G a5, (fun_mk (st := xy) l5 c5 k5).binds (ps := ["leaf"]) fun _ _ _ _ _ _ us hl => match us, hl with | [_], _ => rfl, f6, _, fun_mk l6 c6 k6, PySem.W.mg_of X G a6, (fun_mk (st := wU) l6 c6 k6).binds (ps := ["draws", "k", "bits"]) fun _ _ _ _ _ _ us hl => match us, hl with | [_, _, _], _ => rfl, f7, _, fun_mk l7 c7 k7, PySem.W.mg_of X G a7, (fun_mk (st := jN) l7 c7 k7).binds (ps := ["draws", "k"]) fun _ _ _ _ _ _ us hl => match us, hl with | [_, _], _ => rfl, f8, _, fun_mk l8 c8 k8, PySem.W.mg_of X G a8, (fun_mk (st := jC) l8 c8 k8).binds (ps := ["draws", "k"]) fun _ _ _ _ _ _ us hl => match us, hl with | [_, _], _ => rfl, f9, _, fun_mk l9 c9 k9, PySem.W.mg_of X G a9, (fun_mk (st := yY) l9 c9 k9).binds (ps := ["row"]) fun _ _ _ _ _ _ us hl => match us, hl with | [_], _ => rfl, f10, _, fun_mk l10 c10 k10, PySem.W.mg_of X G a10, (fun_mk (st := vU) l10 c10 k10).binds (ps := ["row"]) fun _ _ _ _ _ _ us hl => match us, hl with | [_], _ => rfl, f11, _, fun_mk l11 c11 k11, PySem.W.mg_of X G a11, (fun_mk (st := zR) l11 c11 k11).binds (ps := ["writing"]) fun _ _ _ _ _ _ us hl => match us, hl with | [_], _ => rfl, f12, _, fun_mk l12 c12 k12, PySem.W.mg_of X G a12, (fun_mk (st := yH) l12 c12 k12).binds (ps := ["row", "at"]) fun _ _ _ _ _ _ us hl => match us, hl with | [_, _], _ => rfl, f13, _, fun_mk l13 c13 k13, PySem.W.mg_of X G a13, (fun_mk (st := yU) l13 c13 k13).binds (ps := ["row", "at"]) fun _ _ _ _ _ _ us hl => match us, hl with | [_, _], _ => rfl, f14, _, fun_mk l14 c14 k14, PySem.W.mg_of X G a14, (fun_mk (st := jR) l14 c14 k14).binds (ps := ["row", "at", "top"]) fun _ _ _ _ _ _ us hl => match us, hl with | [_, _, _], _ => rfl, f15, _, fun_mk l15 c15 k15, PySem.W.mg_of X G a15, (fun_mk (st := wR) l15 c15 k15).binds (ps := ["writing"]) fun _ _ _ _ _ _ us hl => match us, hl with | [_], _ => rfl, f16, _, fun_mk l16 c16 k16, PySem.W.mg_of X G a16, (fun_mk (st := xU) l16 c16 k16).binds (ps := ["writing", "at"]) fun _ _ _ _ _ _ us hl => match us, hl with | [_, _], _ => rfl, f17, _, fun_mk l17 c17 k17, PySem.W.mg_of X G a17, (fun_mk (st := vR) l17 c17 k17).binds (ps := ["number"]) fun _ _ _ _ _ _ us hl => match us, hl with | [_], _ => rfl, f18, _, fun_mk l18 c18 k18, PySem.W.mg_of X G a18, (fun_mk (st := zL) l18 c18 k18).binds (ps := ["total", "row"]) fun _ _ _ _ _ _ us hl => match us, hl with | [_, _], _ => rfl, f19, _, fun_mk l19 c19 k19, PySem.W.mg_of X G a19, (fun_mk (st := j5) l19 c19 k19).binds (ps := ["row"]) fun _ _ _ _ _ _ us hl => match us, hl with | [_], _ => rfl, f20, _, fun_mk l20 c20 k20, PySem.W.mg_of X G a20, (fun_mk (st := kU) l20 c20 k20).binds (ps := ["writing"]) fun _ _ _ _ _ _ us hl => match us, hl with | [_], _ => rfl, f21, _, fun_mk l21 c21 k21, PySem.W.mg_of X G a21, (fun_mk (st := qad) l21 c21 k21).binds (ps := ["piece"]) fun _ _ _ _ _ _ us hl => match us, hl with | [_], _ => rfl, f22, _, fun_mk l22 c22 k22, PySem.W.mg_of X G a22, (fun_mk (st := zad) l22 c22 k22).binds (ps := ["row"]) fun _ _ _ _ _ _ us hl => match us, hl with | [_], _ => rfl, f23, _, fun_mk l23 c23 k23, PySem.W.mg_of X G a23, (fun_mk (st := jL) l23 c23 k23).binds (ps := ["piece"]) fun _ _ _ _ _ _ us hl => match us, hl with | [_], _ => rfl, f24, _, fun_mk l24 c24 k24, PySem.W.mg_of X G a24, (fun_mk (st := wL) l24 c24 k24).binds (ps := ["row", "at", "bound"]) fun _ _ _ _ _ _ us hl => match us, hl with | [_, _, _], _ => rfl, f25, _, fun_mk l25 c25 k25, PySem.W.mg_of X G a25, (fun_mk (st := ky) l25 c25 k25).binds (ps := ["row"]) fun _ _ _ _ _ _ us hl => match us, hl with | [_], _ => rfl, f26, _, fun_mk l26 c26 k26, PySem.W.mg_of X G a26, (fun_mk (st := vJ) l26 c26 k26).binds (ps := ["row"]) fun _ _ _ _ _ _ us hl => match us, hl with | [_], _ => rfl, fa, _, fun_mk l27 c27 k27, PySem.W.mg_of X G a27, (fun_mk (st := xbb) l27 c27 k27).binds (ps := ["script"]) fun _ _ _ _ _ _ us hl => match us, hl with | [_], _ => rfl, PySem.W.mg_none_of X G zq, PySem.W.mg_none_of X G vbl, PySem.W.mg_none_of X G jr, PySem.W.mg_none_of X G ybl, PySem.W.mg_none_of X G vaa, PySem.W.mg_none_of X G v7, PySem.W.mg_none_of X G xbl, PySem.W.mg_none_of X G ybb, PySem.W.mg_none_of X G jaz, PySem.W.mg_none_of X G qaB, PySem.W.mg_none_of X G jI, _, PySem.W.mg_of X G zcg, _, PySem.W.mg_of X G vbr, _, PySem.W.mg_of X G zaB, _, PySem.W.mg_of X G jaB, _, PySem.W.mg_of X G qaL, _, PySem.W.mg_of X G qar, _, PySem.W.mg_of X G xaU, _, PySem.W.mg_of X G kaU, _, PySem.W.mg_of X G qaV, _, PySem.W.mg_of X G wbg, zdi (ns := [0, 498536548, 997073096, 651767980, 1994146192, 1802195444, 1303535960, 1342533948, 3988292384, 4027552580, 3604390888, 3412177804, 2607071920, 2262029012, 2685067896, 3183342108]) vbg (.cons ⟨_, rfl⟩ (.cons ⟨_, rfl⟩ (.cons ⟨_, rfl⟩ (.cons ⟨_, rfl⟩ (.cons ⟨_, rfl⟩ (.cons ⟨_, rfl⟩ (.cons ⟨_, rfl⟩ (.cons ⟨_, rfl⟩ (.cons ⟨_, rfl⟩ (.cons ⟨_, rfl⟩ (.cons ⟨_, rfl⟩ (.cons ⟨_, rfl⟩ (.cons ⟨_, rfl⟩ (.cons ⟨_, rfl⟩ (.cons ⟨_, rfl⟩ (.cons ⟨_, rfl⟩ (.nil))))))))))))))))), _, PySem.W.mg_of X G qa6, _, PySem.W.mg_of X G wbP, fI, _, ⟨fun_mk lI cI kI, tI, (fun_mk (st := xaR) lI cI kI).binds (ps := ["self", "at"]) fun _ _ _ _ _ _ us hl => match us, hl with | [_, _], _ => rfl⟩, ⟨PySem.W.mg_of X G zaV, ⟨⟨_, _, _, _, _, _, _, _, _, _, _, _, _, _, _, jaV, waV⟩, vaV, j3, yaV, xaV⟩, jax, kaV, ⟨jaf, waf, j3, vaf⟩⟩, ⟨PySem.W.mg_of X G zaL, ⟨⟨_, _, _, _, _, _, _, _, _, _, _, _, _, _, _, jaL, waL⟩, vaL, qU, yaL, xaL⟩, jan, kaL, ⟨y7, q8, qU, j8⟩⟩, ⟨PySem.W.mg_of X G waB, ⟨⟨_, _, _, _, _, _, _, _, _, _, _, _, _, _, _, vaB, yaB⟩, xaB, yP, kaB, qaC⟩, yaf, zaC, ⟨vX, yX, yP, xX⟩⟩, ⟨PySem.W.mg_of X G xaf, ⟨⟨_, _, _, _, _, _, _, _, _, _, _, _, _, _, _, jaC, waC⟩, vaC, xP, yaC, xaC⟩, kaf, kaC, ⟨kX, qY, xP, zY⟩⟩, ⟨PySem.W.mg_of X G yaa, ⟨⟨_, _, _, _, _, _, _, _, _, _, _, _, _, _, _, zar, jar⟩, war, xK, yar, xar⟩, xaa, kar, ⟨qT, zT, xK, jT⟩⟩, ⟨PySem.W.mg_of X G v3, ⟨⟨_, _, _, _, _, _, _, _, _, _, _, _, _, _, _, zaj, jaj⟩, waj, jH, vaj, yaj⟩, y3, xaj, ⟨kP, qQ, jH, zQ⟩⟩, ⟨PySem.W.mg_of X G qaM, ⟨⟨_, _, _, _, _, _, _, _, _, _, _, _, _, _, _, zaM, jaM⟩, waM, zU, vaM, yaM⟩, wan, xaM, ⟨w8, v8, zU, y8⟩⟩, ⟨PySem.W.mg_of X G qas, ⟨⟨_, _, _, _, _, _, _, _, _, _, _, _, _, _, _, zas, jas⟩, vas, kK, yas, xas⟩, kaa, kas, ⟨vT, yT, kK, xT⟩⟩, ⟨PySem.W.mg_of X G qaW, ⟨⟨_, _, _, _, _, _, _, _, _, _, _, _, _, _, _, zaW, jaW⟩, waW, j4, vaW, yaW⟩, wax, xaW, ⟨qag, zag, j4, jag⟩⟩, ⟨PySem.W.mg_of X G kaW, ⟨⟨_, _, _, _, _, _, _, _, _, _, _, _, _, _, _, qaX, zaX⟩, jaX, y4, waX, vaX⟩, vax, yaX, ⟨wag, vag, y4, yag⟩⟩, ⟨PySem.W.mg_of X G xaX, ⟨⟨_, _, _, _, _, _, _, _, _, _, _, _, _, _, _, kaX, qaY⟩, zaY, q5, jaY, waY⟩, yax, vaY, ⟨xag, kag, q5, qah⟩⟩, ⟨PySem.W.mg_of X G qaD, ⟨⟨_, _, _, _, _, _, _, _, _, _, _, _, _, _, _, zaD, jaD⟩, waD, jQ, vaD, yaD⟩, zah, xaD, ⟨jY, wY, jQ, vY⟩⟩, ⟨PySem.W.mg_of X G za6, ⟨⟨_, _, _, _, _, _, _, _, _, _, _, _, _, _, _, ja6, wa6⟩, va6, xac, ya6, xa6⟩, vaJ, ka6, ⟨xap, kap, xac, qaq⟩⟩, ⟨PySem.W.mg_of X G kaM, ⟨⟨_, _, _, _, _, _, _, _, _, _, _, _, _, _, _, qaN, zaN⟩, jaN, jU, waN, vaN⟩, van, yaN, ⟨q9, z9, jU, j9⟩⟩, ⟨PySem.W.mg_of X G kaj, ⟨⟨_, _, _, _, _, _, _, _, _, _, _, _, _, _, _, qak, zak⟩, jak, wH, wak, vak⟩, z5, yak, ⟨wQ, vQ, wH, yQ⟩⟩, PySem.W.mg_of X G xaf, PySem.W.mg_of X G yaa, PySem.W.mg_of X G v3, PySem.W.mg_of X G vab, ⟨⟨kX, qY, xP, zY⟩, kaf, ⟨kX, qY, xP, zY, kaD, yn, yt, qaE⟩⟩, ⟨⟨kP, qQ, jH, zQ⟩, y3, ⟨kP, qQ, jH, zQ, xak, yn, yt, kak⟩⟩, ⟨⟨qT, zT, xK, jT⟩, xaa, ⟨qT, zT, xK, jT, qat, yn, yt, zat⟩⟩, ⟨⟨q9, z9, jU, j9⟩, van, ⟨q9, z9, jU, j9, xaN, yn, yt, kaN⟩⟩, ⟨⟨jY, wY, jQ, vY⟩, zah, ⟨jY, wY, jQ, vY, zaE, yn, yt, jaE⟩⟩, ⟨⟨xag, kag, q5, qah⟩, yax, ⟨xag, kag, q5, qah, yaY, yn, yt, xaY⟩⟩, ⟨⟨xap, kap, xac, qaq⟩, vaJ, ⟨xap, kap, xac, qaq, qa7, yn, yt, za7⟩⟩, ⟨⟨wag, vag, y4, yag⟩, vax, ⟨wag, vag, y4, yag, kaY, yn, yt, qaZ⟩⟩, ⟨⟨qag, zag, j4, jag⟩, wax, ⟨qag, zag, j4, jag, zaZ, yn, yt, jaZ⟩⟩, ⟨⟨vT, yT, kK, xT⟩, kaa, ⟨vT, yT, kK, xT, jat, yn, yt, wat⟩⟩, ⟨⟨w8, v8, zU, y8⟩, wan, ⟨w8, v8, zU, y8, qaO, yn, yt, zaO⟩⟩, ⟨⟨vX, yX, yP, xX⟩, yaf, ⟨vX, yX, yP, xX, waE, yn, yt, vaE⟩⟩, ⟨⟨y7, q8, qU, j8⟩, jan, ⟨y7, q8, qU, j8, jaO, yn, yt, waO⟩⟩, ⟨⟨jaf, waf, j3, vaf⟩, jax, ⟨jaf, waf, j3, vaf, waZ, yn, yt, vaZ⟩⟩, ⟨⟨wQ, vQ, wH, yQ⟩, z5, ⟨wQ, vQ, wH, yQ, qal, yn, yt, zal⟩⟩, zN, yJ, wI, vI, qG, yE, xJ, yI, zG, jG, xE, xI, kJ, qJ, zJ, vD, wG, kE, vG, jJ, qC, qF, zC, yD⟩
  exact ⟨T.qbm, fun s v => .of_eq rfl, fun base _ _ => kc2 hl (jc8 T)⟩
end K44
namespace DL
open PySem PySem.Spec PyProof.Rows L2
theorem jcs {α : Type} {xs : List α} {i : Int} (h0 : 0 ≤ i) (h1 : i < xs.length) : atI xs i = some (xs[i.toNat]'(by omega)) := by
  unfold atI ixN
  rw [if_pos h0, if_pos h1]
  exact List.getElem?_eq_getElem _
theorem jcV {α β : Type} (f : α → β) (xs : List α) (i : Int) : atI (xs.map f) i = (atI xs i).map f := by
  unfold atI
  rw [List.length_map]
  cases ixN xs.length i with
  | none => rfl
  | some j => simp
theorem wbp {i j : Int} (h : 0 < j) : ycc i j = true := decide_eq_true h
theorem vbp {i j : Int} (h : 0 < j) (h2 : j < 1073741824) : jbo i j = true := by
  unfold jbo
  rw [decide_eq_true h, decide_eq_true h2]
  rfl
theorem xaQ {i j : Int} (h : -1000000000 < i) (h2 : i < 1000000000) : jaT i j = true := by
  unfold jaT
  rw [decide_eq_true (show -(2 ^ 64) < i by omega), decide_eq_true (show i < 2 ^ 64 by omega)]
  rfl
theorem ja4 {i j : Int} (h : -1000000000 < j) (h2 : j < 1000000000) : jaT i j = true := by
  unfold jaT
  rw [decide_eq_true (show -(2 ^ 64) < j by omega), decide_eq_true (show j < 2 ^ 64 by omega)]
  exact Bool.or_true _
theorem qaz {i j : Int} (h0 : 0 ≤ j) (h1 : j ≤ 1000000) (h2 : -1000000000 < i) (h3 : i < 1000000000) : zaK i j = true := by
  unfold zaK
  rw [decide_eq_true h0, decide_eq_true h1, decide_eq_true (show i.natAbs < 2 ^ 64 by omega)]
  rfl
theorem yba {i j : Int} (h : 0 ≤ j) : wbo i j = true := decide_eq_true h
theorem xba {j : Int} (h : -1000000000 < j) (h2 : j < 1000000000) : zab j = true := by
  unfold zab
  rw [decide_eq_true (show -(2 ^ 62) ≤ j by omega), decide_eq_true (show j < 2 ^ 62 by omega)]
  rfl
theorem zp {n : Nat} (h : n ≤ 16777216) : yo n = true := decide_eq_true h
theorem zbc : ∀ (ns ms : List Int), PyData.eqvAll (ns.map PyData.int) (ms.map PyData.int) = decide (ns = ms)
  | [], [] => rfl
  | [], _ :: _ => rfl
  | _ :: _, [] => rfl
  | n :: ns, m :: ms => by
    show (PyData.eqv (.int n) (.int m) && PyData.eqvAll (ns.map PyData.int) (ms.map PyData.int)) = _
    rw [zbc ns ms]
    show ((n == m) && decide (ns = ms)) = _
    by_cases h1 : n = m
    · by_cases h2 : ns = ms
      · simp [h1, h2]
      · simp [h1, h2]
    · simp [h1]
theorem jbc : ∀ ns : List Int, PyData.canLayAll0 (ns.map PyData.int) = true
  | [] => rfl
  | n :: ns => jbc ns
theorem depth_ints : ∀ ns : List Int, PyData.depthAll (ns.map PyData.int) = 0
  | [] => rfl
  | n :: ns => by
    show max 0 (PyData.depthAll (ns.map PyData.int)) = 0
    rw [depth_ints ns]
    rfl
@[simp] theorem jdc (i : Int) : SeqAt.shaped (.int i) = true := rfl
@[simp] theorem xda (i : Bool) : SeqAt.shaped (.bool i) = true := rfl
@[simp] theorem kda : SeqAt.shaped .none = true := rfl
@[simp] theorem shaped_ints (ns : List Int) : SeqAt.shaped (.list (ns.map PyData.int)) = true := by
  unfold SeqAt.shaped
  have h1 : PyData.canLay0 (.list (ns.map PyData.int)) = true := jbc ns
  have h2 : PyData.depth (.list (ns.map PyData.int)) = 1 := by
    show PyData.depthAll (ns.map PyData.int) + 1 = 1
    rw [depth_ints ns]
  rw [h1, h2]
  rfl
theorem vcB {d : D} (h : SeqAt.shaped d = true) : eqD d d = some true := by
  unfold eqD
  rw [h]
  show some (PyData.eqv d d) = some true
  rw [SeqAt.eqv_refl d (SeqAt.canLay_of_shaped h)]
@[simp] theorem xdC (i j : Int) : eqD (.int i) (.int j) = some (i == j) := rfl
@[simp] theorem ycB (ns ms : List Int) : eqD (.list (ns.map PyData.int)) (.list (ms.map PyData.int)) = some (decide (ns = ms)) := by
  unfold eqD
  rw [shaped_ints, shaped_ints]
  show some (PyData.eqvAll (ns.map PyData.int) (ms.map PyData.int)) = _
  rw [zbc]
theorem wx {g : FG} {body : FS} (Inv : Nat → jc → Prop) {ds : List D} {ρ : jc} (h0 : Inv 0 ρ)
    (h : ∀ i d ρ, ds[i]? = some d → Inv i ρ → ∃ ρ1 ρ2, g d ρ = some ρ1 ∧ body ρ1 = some (.nx ρ2) ∧ Inv (i + 1) ρ2) : ∃ ρ', forL g body ds ρ = some (.nx ρ') ∧ Inv ds.length ρ' := by
  have go : ∀ (k n : Nat) (ρ : jc), ds.length - n = k → n ≤ ds.length → Inv n ρ → ∃ ρ', forL g body (ds.drop n) ρ = some (.nx ρ') ∧ Inv ds.length ρ' := by
    intro k
    induction k with
    | zero =>
      intro n ρ hk hn hI
      have e : n = ds.length := by omega
      subst e
      rw [List.drop_length]
      exact ⟨ρ, rfl, hI⟩
    | succ k ih =>
      intro n ρ hk hn hI
      have hlt : n < ds.length := by omega
      obtain ⟨ρ1, ρ2, h1, h2, h3⟩ := h n ds[n] ρ (List.getElem?_eq_getElem hlt) hI
      obtain ⟨ρ', h4, h5⟩ := ih (n + 1) ρ2 (by omega) hlt h3
      refine ⟨ρ', ?_, h5⟩
      rw [List.drop_eq_getElem_cons hlt]
      unfold forL
      rw [h1]
      dsimp only
      rw [h2]
      exact h4
  have q := go _ 0 ρ rfl (Nat.zero_le _) h0
  rw [List.drop_zero] at q
  exact q
theorem ybp {α : Type} {tt : FT} {fe : FE} {st : D → Option jc} (dat : α → D) (F : α → D) : ∀ {xs : List α}, (∀ x ∈ xs, ∃ ρ v, st (dat x) = some ρ ∧ tt ρ = some (.ok true) ∧ fe ρ = some (.ok v) ∧ v.st = some (F x)) → lcL tt fe st (xs.map dat) = some (xs.map F)
  | [], _ => rfl
  | x :: xs, h => by
    obtain ⟨ρ, v, h1, h2, h3, h4⟩ := h x List.mem_cons_self
    have ih := ybp (tt := tt) (fe := fe) (st := st) dat F (xs := xs) fun y hy => h y (List.mem_cons_of_mem _ hy)
    rw [List.map_cons, List.map_cons]
    unfold lcL
    rw [h1]
    dsimp only
    rw [h2]
    dsimp only
    rw [h3]
    dsimp only
    rw [h4, ih]
    rfl
theorem wao (lo : Int) (n : Nat) : yh lo n = (List.range n).map fun (i : Nat) => PyData.int (lo + (i : Int)) := rfl
section
variable {f g : FS} {ρ ρ1 : jc} {o : Option Out} {n k : Nat} {ds : List D} {d : D} {E F fa fb fc : FE} {t u : FT} {i : Nat} {v a b : Val}
theorem vc (h1 : f ρ = some (.nx ρ1)) (h2 : g ρ1 = o) : yb f g ρ = o := by
  unfold yb
  rw [h1]
  exact h2
theorem jS (h1 : f ρ = some (.ret d)) : yb f g ρ = some (.ret d) := by
  unfold yb
  rw [h1]
theorem zw (h : f (ds.map .dat ++ List.replicate (k - n) .un) = some (.ret d)) : wC n k f ds = some (.ret d) := by
  rw [kbJ, h]
theorem yai {es : List D} (h : f (ds.map .dat ++ List.replicate (k - n) .un) = some (.retF es)) : wC n k f ds = some (.retF es) := by
  rw [kbJ, h]
theorem xu {c : Nat} {j : Int} {ρ' : jc} (h : f (ds.map .dat ++ List.replicate (k - n) .un) = some (.exc ρ' c j)) : wC n k f ds = some (.exc c j) := by
  rw [kbJ, h]
theorem kF {h : Val → Val → Option Val} (ha : fa ρ = some (.ok a)) (hb : fb ρ = some (.ok b)) (e : h a b = some v) : e2 h fa fb ρ = some (.ok v) := by
  rw [qdc]
  unfold bE
  rw [ha]
  dsimp only
  rw [hb]
  dsimp only
  rw [e]
  rfl
theorem zc3 {h : Val → Option Val} (ha : fa ρ = some (.ok a)) (e : h a = some v) : e1 h fa ρ = some (.ok v) := by
  rw [zdc]
  unfold bE
  rw [ha]
  dsimp only
  rw [e]
  rfl
theorem yf {d : D} (q : E ρ = some (.ok v)) (h : v.st = some d) (e : ρ.set i (.dat d) = ρ1) : yc i E ρ = some (.nx ρ1) := by
  rw [zca]
  unfold sE
  rw [q]
  dsimp only
  rw [h, ← e]
  rfl
theorem xad (q : E ρ = some (.ok (.f ds))) (e : ρ.set i (.own ds) = ρ1) : zS i E ρ = some (.nx ρ1) := by
  rw [wcB]
  unfold sE
  rw [q, ← e]
theorem wg (h : t ρ = some (.ok true)) (e : f ρ = o) : qg t f g ρ = o := by
  unfold qg
  rw [h]
  exact e
theorem kg (h : t ρ = some (.ok false)) (e : g ρ = o) : qg t f g ρ = o := by
  unfold qg
  rw [h]
  exact e
theorem wu (q : E ρ = some (.ok (.s d))) : ji E ρ = some (.ret d) := by
  rw [jbp]
  unfold sE
  rw [q]
theorem ybi (q : E ρ = some (.ok (.f ds))) : ji E ρ = some (.retF ds) := by
  rw [jbp]
  unfold sE
  rw [q]
theorem qbK (q : E ρ = some (.ok (.b ds))) : ji E ρ = some (.retF ds) := by
  rw [jbp]
  unfold sE
  rw [q]
theorem kO {x : Bool} (q : E ρ = some (.ok v)) (h : v.d = .bool x) : tV E ρ = some (.ok x) := by
  unfold tV
  rw [q]
  dsimp only
  rw [h]
theorem xcH {x : Bool} (q : t ρ = some (.ok x)) : vaw t ρ = some (.ok (!x)) := by
  unfold vaw
  rw [q]
theorem kaQ (q : t ρ = some (.ok true)) : vaw t ρ = some (.ok false) := xcH q
theorem zbK (q : t ρ = some (.ok false)) : vaw t ρ = some (.ok true) := xcH q
theorem jce {T : String} (q : fa ρ = some (.ok v)) (n : zcz v.d = false := by rfl) : e1 (zbf T) fa ρ = some (.ok (.s (.bool (jcA T v.d)))) := zc3 q (by unfold zbf; rw [n]; rfl)
theorem xS (q : t ρ = some (.ok true)) : zB t u ρ = some (.ok true) := by
  unfold zB
  rw [q]
theorem vu {x : Bool} (q : t ρ = some (.ok false)) (q2 : u ρ = some (.ok x)) : zB t u ρ = some (.ok x) := by
  unfold zB
  rw [q]
  exact q2
theorem xai {x : Bool} (q : t ρ = some (.ok true)) (q2 : u ρ = some (.ok x)) : waw t u ρ = some (.ok x) := by
  unfold waw
  rw [q]
  exact q2
theorem qaR (q : t ρ = some (.ok false)) : waw t u ρ = some (.ok false) := by
  unfold waw
  rw [q]
theorem qc : ya ρ = some (.ok []) := rfl
theorem jb {A : FA} {vs : List Val} (q : E ρ = some (.ok v)) (q2 : A ρ = some (.ok vs)) : qa E A ρ = some (.ok (v :: vs)) := by
  unfold qa
  rw [q]
  dsimp only
  rw [q2]
theorem wa4 {h : List Val → Option Val} {A : FA} {vs : List Val} (q : A ρ = some (.ok vs)) (e : h vs = some v) : eG h A ρ = some (.ok v) := by
  unfold eG
  rw [q]
  dsimp only
  rw [e]
  rfl
theorem jl {G : DF} {A : FA} {vs : List Val} {es : List D} {d : D} (q : A ρ = some (.ok vs)) (hs : vw vs = some es) (hn : vs.length = n) (e : G es = some (.ret d)) : wc G n A ρ = some (.ok (.s d)) := by
  unfold wc
  rw [q]
  dsimp only
  rw [if_pos hn, yaQ hs, e]
  dsimp only
  rw [hs]
theorem qP {G : DF} {A : FA} {vs : List Val} {es : List D} {ds : List D} (q : A ρ = some (.ok vs)) (hs : vw vs = some es) (hn : vs.length = n) (e : G es = some (.retF ds)) : wc G n A ρ = some (.ok (.f ds)) := by
  unfold wc
  rw [q]
  dsimp only
  rw [if_pos hn, yaQ hs, e]
  dsimp only
  rw [hs]
theorem xcB {G : DF} {A : FA} {vs : List Val} {es : List D} {ds : List D} (q : A ρ = some (.ok vs)) (hs : vs.map Val.d = es) (hn : vs.length = n) (e : G es = some (.retF ds)) (hd : ds.all vj = true) : wc G n A ρ = some (.ok (.f ds)) := by
  unfold wc
  rw [q]
  dsimp only
  rw [if_pos hn, hs, e]
  dsimp only
  cases vw vs with
  | some _ => rfl
  | none =>
    dsimp only
    rw [if_pos hd]
theorem vaK : ∀ ns : List Int, (ns.map PyData.int).all vj = true
  | [] => rfl
  | n :: ns => vaK ns
theorem jK {G : DF} {A : FA} {vs : List Val} {es : List D} {c : Nat} {j : Int} (q : A ρ = some (.ok vs)) (hs : vw vs = some es) (hn : vs.length = n) (e : G es = some (.exc c j)) : wc G n A ρ = some (.error (c, j)) := by
  unfold wc
  rw [q]
  dsimp only
  rw [if_pos hn, yaQ hs, e]
theorem zb {d : D} (h : ρ[i]? = some (.dat d)) : eV i ρ = some (.ok (.s d)) := by
  unfold eV
  rw [h]
  rfl
theorem jc3 {x : Bool} (ha : fa ρ = some (.ok a)) (hb : fb ρ = some (.ok b)) (e : eqD a.d b.d = some x) : e2 qu fa fb ρ = some (.ok (.s (.bool x))) := kF ha hb (by unfold qu; rw [e]; rfl)
theorem jbK {x : Bool} (ha : fa ρ = some (.ok a)) (hb : fb ρ = some (.ok b)) (e : eqD a.d b.d = some x) : e2 gNe fa fb ρ = some (.ok (.s (.bool (!x)))) := kF ha hb (by unfold gNe; rw [e]; rfl)
theorem kcH {i j : Int} (ha : fa ρ = some (.ok (.s (.int i)))) (hb : fb ρ = some (.ok (.s (.int j)))) : e2 qu fa fb ρ = some (.ok (.s (.bool (i == j)))) := jc3 ha hb rfl
theorem qcI {i j : Int} (ha : fa ρ = some (.ok (.s (.int i)))) (hb : fb ρ = some (.ok (.s (.int j)))) : e2 gNe fa fb ρ = some (.ok (.s (.bool (!(i == j))))) := jbK ha hb rfl
theorem yv {i j : Int} (ha : fa ρ = some (.ok (.s (.int i)))) (hb : fb ρ = some (.ok (.s (.int j)))) (h : i = j) : tV (e2 qu fa fb) ρ = some (.ok true) := kO (kcH ha hb) (by rw [beq_iff_eq.mpr h]; rfl)
theorem vp {i j : Int} (ha : fa ρ = some (.ok (.s (.int i)))) (hb : fb ρ = some (.ok (.s (.int j)))) (h : i ≠ j) : tV (e2 qu fa fb) ρ = some (.ok false) := kO (kcH ha hb) (by rw [beq_eq_false_iff_ne.mpr h]; rfl)
theorem zaR {i j : Int} (ha : fa ρ = some (.ok (.s (.int i)))) (hb : fb ρ = some (.ok (.s (.int j)))) (h : i = j) : tV (e2 gNe fa fb) ρ = some (.ok false) := kO (qcI ha hb) (by rw [beq_iff_eq.mpr h]; rfl)
theorem jaR {i j : Int} (ha : fa ρ = some (.ok (.s (.int i)))) (hb : fb ρ = some (.ok (.s (.int j)))) (h : i ≠ j) : tV (e2 gNe fa fb) ρ = some (.ok true) := kO (qcI ha hb) (by rw [beq_eq_false_iff_ne.mpr h]; rfl)
theorem jbG {es : List D} {d : D} (ho : ρ[i]? = some (.own es)) (q : E ρ = some (.ok v)) (h : v.st = some d) (hl : es.length + 1 ≤ 16777216) (e : ρ.set i (.own (es ++ [d])) = ρ1) : xF i E ρ = some (.nx ρ1) := by
  rw [xcU]
  unfold yad
  rw [ho]
  dsimp only
  unfold sE
  rw [q]
  dsimp only
  rw [h]
  dsimp only
  rw [if_pos (zp hl), ← e]
theorem wce {es us : List D} (ho : ρ[i]? = some (.own es)) (q : E ρ = some (.ok v)) (h : v.items = some us) (hl : es.length + us.length ≤ 16777216) (e : ρ.set i (.own (es ++ us)) = ρ1) : yaq i E ρ = some (.nx ρ1) := by
  rw [kcU]
  unfold yad
  rw [ho]
  dsimp only
  unfold sE
  rw [q]
  dsimp only
  rw [h]
  dsimp only
  rw [if_pos (zp hl), ← e]
end
theorem vao {vs : List Nat} {st : jc → D → Option jc} {a : FA} {tt : FT} {fe : FE} {ρ : jc} {n : Nat} {F : Nat → D} (h0 : noOwn ρ vs = true) (ha : wi a ρ = some (.ok (yh 0 n))) (hl : n ≤ 16777216)
    (h : ∀ k, k < n → ∃ ρ1 v, st (ym ρ vs) (.int (k : Int)) = some ρ1 ∧ tt ρ1 = some (.ok true) ∧ fe ρ1 = some (.ok v) ∧ v.st = some (F k)) : zz vs st (wi a) tt fe ρ = some (.ok (.f ((List.range n).map F))) := by
  have e : lcL tt fe (st (ym ρ vs)) (yh 0 n) = some ((List.range n).map F) := by
    rw [wao]
    refine ybp (fun (i : Nat) => PyData.int (0 + (i : Int))) F fun k hk => ?_
    rw [Int.zero_add]
    exact h k (List.mem_range.mp hk)
  unfold zz
  rw [if_pos h0, ha]
  dsimp only
  rw [e]
  dsimp only
  rw [if_pos (zp (by rw [List.length_map, List.length_range]; exact hl))]
theorem atI_nat {α : Type} {xs : List α} {i : Nat} (h : i < xs.length) : atI xs (i : Int) = some xs[i] := by
  rw [jcs (Int.natCast_nonneg i) (by omega)]
  simp
def jd (row : List Nat) : List D := row.map fun (n : Nat) => .int (n : Int)
@[simp] theorem wdF : jd [] = [] := rfl
theorem xbp (n : Nat) (r : List Nat) : jd (n :: r) = .int (n : Int) :: jd r := rfl
theorem yW (a b : List Nat) : jd (a ++ b) = jd a ++ jd b := List.map_append
theorem xi (r : List Nat) : (jd r).length = r.length := List.length_map ..
theorem zaz (r : List Nat) : jd r = (r.map fun (n : Nat) => (n : Int)).map PyData.int := by
  unfold jd
  rw [List.map_map]
  rfl
theorem va4 (r : List Nat) : (jd r).all vj = true := by
  rw [zaz]
  exact vaK _
theorem wc3 {a b : List Nat} (h : jd a = jd b) : a = b := by
  induction a generalizing b with
  | nil => cases b with
    | nil => rfl
    | cons _ _ => cases h
  | cons n a ih => cases b with
    | nil => cases h
    | cons m b =>
      rw [xbp, xbp] at h
      injection h with h1 h2
      injection h1 with h1
      rw [ih h2, Int.ofNat.inj h1]
theorem wcs (a b : List Nat) : eqD (.list (jd a)) (.list (jd b)) = some (decide (a = b)) := by
  rw [zaz, zaz, ycB]
  congr 1
  apply decide_eq_decide.mpr
  constructor
  · intro h
    apply wc3
    rw [zaz, zaz, h]
  · intro h
    rw [h]
theorem zbZ (a : List Nat) : eqD (.list (jd a)) (.list (jd a)) = some true := by
  rw [wcs]
  simp
theorem yao {r : List Nat} {i : Nat} (h : i < r.length) : atI (jd r) (i : Int) = some (.int (r[i] : Nat)) := by
  have h' : i < (jd r).length := by rw [xi]; exact h
  rw [atI_nat h']
  simp [jd]
theorem vce {r : List Nat} {i : Nat} {d : D} (h : (jd r)[i]? = some d) : ∃ hi : i < r.length, d = .int (r[i] : Nat) := by
  obtain ⟨hi, e⟩ := List.getElem?_eq_some_iff.mp h
  have hi' : i < r.length := by rw [xi] at hi; exact hi
  refine ⟨hi', ?_⟩
  rw [← e]
  simp [jd]
theorem vc3 (n : Nat) (r : List Nat) : inD (.int (n : Int)) (jd r) = r.contains n := by
  unfold inD inV
  induction r with
  | nil => rfl
  | cons m r ih =>
    rw [xbp, List.map_cons, List.any_cons, ih, List.contains_cons]
    congr 1
    show ((m : Int) == (n : Int)) = _
    by_cases h : n = m
    · rw [beq_iff_eq.mpr h, beq_iff_eq.mpr (by omega)]
    · rw [beq_eq_false_iff_ne.mpr h, beq_eq_false_iff_ne.mpr (by omega)]
theorem wca : ∀ ds : List D, vw (ds.map Val.s) = some ds
  | [] => rfl
  | d :: ds => by
    rw [List.map_cons]
    unfold vw
    rw [wca ds]
    rfl
theorem kbf {α : Type} (xs : List α) (i j : Nat) (hj : j ≤ xs.length) (hi : i ≤ j) : vV xs (some (i : Int)) (some (j : Int)) = (xs.drop i).take (j - i) := by
  unfold vV
  rw [HT.sIx_nat, HT.sIx_nat, Nat.min_eq_left hj, Nat.min_eq_left (Nat.le_trans hi hj)]
section
variable {ρ ρ1 : jc} {ds us : List D} {d : D} {E fa fb : FE} {A : FA} {vs : List Val} {i : Nat} {v : Val}
theorem wB {it : FI} {g : FG} {body : FS} {xs : List D} {o : Out} (q : it ρ = some (.ok xs)) (h : forL g body xs ρ = some o) : qz it g body ρ = some o := by
  unfold qz
  rw [q]
  exact h
theorem xbi {xs : List D} (q : E ρ = some (.ok (.f xs))) : yM E ρ = some (.ok xs) := by
  unfold yM
  rw [q]
theorem kad {j : Int} (q : E ρ = some (.ok (.s (.int j)))) : ve E ρ = some (.ok (some j)) := by
  unfold ve
  rw [q]
  rfl
theorem ya4 {L R : FO} {lo hi : Option Int} {xs : List D} (q : E ρ = some (.ok v)) (hv : v = .s (.list xs) ∨ v = .b xs ∨ v = .f xs) (q1 : L ρ = some (.ok lo)) (q2 : R ρ = some (.ok hi)) : jm E L R ρ = some (.ok (.f (vV xs lo hi))) := by
  unfold jm
  rw [q]
  dsimp only
  rw [q1]
  dsimp only
  rw [q2]
  rcases hv with rfl | rfl | rfl <;> rfl
theorem yce {g : Int → Int → Int} {a j : Int} (h : ρ[i]? = some (.dat (.int a))) (q : E ρ = some (.ok (.s (.int j)))) (e : ρ.set i (.dat (.int (g a j))) = ρ1) : ya3 i g E ρ = some (.nx ρ1) := by
  unfold ya3
  rw [h]
  dsimp only
  unfold sE
  rw [q, ← e]
  rfl
theorem wdc {es : List D} (ho : ρ[i]? = some (.own es)) (hn : es ≠ []) (e : ρ.set i (.own es.dropLast) = ρ1) : zbJ i ρ = some (.nx ρ1) := by
  rw [qcV]
  unfold yad
  rw [ho]
  dsimp only
  rw [if_neg (by simpa using hn), ← e]
theorem vca {t : FT} {body : FS} {n : Nat} {o : Out} (h : qw t body n ρ = some o) (hn : n ≤ 1000000000) : vbJ t body ρ = some o := jaK fuel h (by
  have e : fuel = 18446744073709551616 := rfl
  omega)
theorem yc3 {t : FT} {body : FS} {n : Nat} (q : t ρ = some (.ok false)) : qw t body (n + 1) ρ = some (.nx ρ) := by
  unfold qw
  rw [q]
theorem xc3 {t : FT} {body : FS} {n : Nat} {o : Option Out} (q : t ρ = some (.ok true)) (q2 : body ρ = some (.nx ρ1)) (h : qw t body n ρ1 = o) : qw t body (n + 1) ρ = o := by
  unfold qw
  rw [q]
  dsimp only
  rw [q2]
  exact h
theorem zE {j : Int} (q : E ρ = some (.ok (.s (.int j)))) (h1 : -1000000000 < j) (h2 : j < 1000000000) : wi (qa E (ya)) ρ = some (.ok (yh 0 j.toNat)) := by
  unfold wi
  rw [jb q qc]
  show (if zab j = true then some (Except.ok (yh 0 j.toNat)) else none) = _
  rw [if_pos (xba h1 h2)]
theorem r_b (h : ρ[i]? = some (.own ds)) : eV i ρ = some (.ok (.b ds)) := by
  unfold eV
  rw [h]
theorem kc3 {us : List Val} (q : E ρ = some (.ok v)) (h : v.parts = some us) (q2 : A ρ = some (.ok vs)) : jaw E A ρ = some (.ok (us ++ vs)) := by
  unfold jaw
  rw [q]
  dsimp only
  rw [h]
  dsimp only
  rw [q2]
theorem vn (q : A ρ = some (.ok vs)) (h : vw vs = some ds) (hl : vs.length ≤ 16777216) : jg A ρ = some (.ok (.f ds)) := by
  unfold jg
  rw [q]
  dsimp only
  rw [if_pos (zp hl), h]
theorem kaw {es : List D} (q : E ρ = some (.ok v)) (h : v.d = .list es) : eG xg (qa E (ya)) ρ = some (.ok (.s (.int (es.length : Int)))) := by
  refine wa4 (jb q qc) ?_
  unfold xg
  dsimp only
  rw [h]
  rfl
theorem vk {i j : Int} (ha : fa ρ = some (.ok (.s (.int i)))) (hb : fb ρ = some (.ok (.s (.int j)))) : e2 xb fa fb ρ = some (.ok (.s (.int (i + j)))) := kF ha hb rfl
theorem xW {i j : Int} (ha : fa ρ = some (.ok (.s (.int i)))) (hb : fb ρ = some (.ok (.s (.int j)))) : e2 gSub fa fb ρ = some (.ok (.s (.int (i - j)))) := kF ha hb rfl
theorem xa4 {i j : Int} (ha : fa ρ = some (.ok (.s (.int i)))) (hb : fb ρ = some (.ok (.s (.int j)))) (h : jaT i j = true) : e2 jq fa fb ρ = some (.ok (.s (.int (i * j)))) := kF ha hb (by
  show (if jaT i j = true then some (Val.s (.int (i * j))) else none) = _
  rw [if_pos h])
theorem kbi {i j : Int} (ha : fa ρ = some (.ok (.s (.int i)))) (hb : fb ρ = some (.ok (.s (.int j)))) (h : 0 < j) : e2 zW fa fb ρ = some (.ok (.s (.int (i % j)))) := kF ha hb (by
  show (if ycc i j = true then some (Val.s (.int (i % j))) else none) = _
  rw [if_pos (wbp h)])
theorem vbK {i j : Int} (ha : fa ρ = some (.ok (.s (.int i)))) (hb : fb ρ = some (.ok (.s (.int j)))) (h : 0 < j) (h2 : j < 1000000000) : e2 ya2 fa fb ρ = some (.ok (.s (.int (i / j)))) := kF ha hb (by
  show (if jbo i j = true then some (Val.s (.int (i / j))) else none) = _
  rw [if_pos (vbp h (by omega))])
theorem qbj {i : Int} (ha : fa ρ = some (.ok (.s (.int i)))) : eG kN (qa fa (ya)) ρ = some (.ok (.s (.int i))) := wa4 (jb ha qc) rfl
theorem zcI {i j : Int} (ha : fa ρ = some (.ok (.s (.int i)))) (hb : fb ρ = some (.ok (.s (.int j)))) : tV (e2 wz fa fb) ρ = some (.ok (decide (j < i))) := kO (kF ha hb rfl) rfl
theorem xce {i j : Int} (ha : fa ρ = some (.ok (.s (.int i)))) (hb : fb ρ = some (.ok (.s (.int j)))) : tV (e2 jz fa fb) ρ = some (.ok (decide (i < j))) := kO (kF ha hb rfl) rfl
theorem zy {i j : Int} (ha : fa ρ = some (.ok (.s (.int i)))) (hb : fb ρ = some (.ok (.s (.int j)))) (h : j < i) : tV (e2 wz fa fb) ρ = some (.ok true) := by rw [zcI ha hb, decide_eq_true h]
theorem vA {i j : Int} (ha : fa ρ = some (.ok (.s (.int i)))) (hb : fb ρ = some (.ok (.s (.int j)))) (h : i ≤ j) : tV (e2 wz fa fb) ρ = some (.ok false) := by rw [zcI ha hb, decide_eq_false (by omega)]
theorem qq {i j : Int} (ha : fa ρ = some (.ok (.s (.int i)))) (hb : fb ρ = some (.ok (.s (.int j)))) (h : i < j) : tV (e2 jz fa fb) ρ = some (.ok true) := by rw [xce ha hb, decide_eq_true h]
theorem xv {i j : Int} (ha : fa ρ = some (.ok (.s (.int i)))) (hb : fb ρ = some (.ok (.s (.int j)))) (h : j ≤ i) : tV (e2 jz fa fb) ρ = some (.ok false) := by rw [xce ha hb, decide_eq_false (by omega)]
theorem ka4 {es : List D} {j : Int} (ha : fa ρ = some (.ok (.s (.list es)))) (hb : fb ρ = some (.ok (.s (.int j)))) (h : atI es j = some d) : e2 yg fa fb ρ = some (.ok (.s d)) := kF ha hb (by
  show (atI es j).map Val.s = _
  rw [h]
  rfl)
theorem xaT {xs ys : List D} {a b : Val} (ha : fa ρ = some (.ok a)) (hb : fb ρ = some (.ok b)) (h1 : a.items = some xs) (h2 : b.items = some ys) (hn : xcc a b = none) (hl : xs.length + ys.length ≤ 16777216) : e2 xb fa fb ρ = some (.ok (.f (xs ++ ys))) := kF ha hb (by
  unfold xb
  rw [hn]
  show ybH a b = _
  unfold ybH
  rw [h1, h2]
  dsimp only
  rw [if_pos (zp hl)])
theorem jcI {n : Nat} {r : List Nat} (ha : fa ρ = some (.ok (.s (.int (n : Int))))) (hb : fb ρ = some (.ok v)) (hv : v.d = .list (jd r)) : tV (e2 gIn fa fb) ρ = some (.ok (r.contains n)) := by
  refine kO (v := .s (.bool (r.contains n))) (kF ha hb ?_) rfl
  unfold gIn kbH
  rw [hv]
  show (if (vj (.int (n : Int)) && (jd r).all vj) = true then some (Val.s (.bool (if false then !inD (.int (n : Int)) (jd r) else inD (.int (n : Int)) (jd r)))) else none) = _
  rw [if_pos (by rw [va4]; rfl), vc3]
  rfl
end
section
variable {f g : FS} {ρ ρ1 : jc} {o : Option Out} {n k : Nat} {ds : List D} {d : D} {E F fa fb fc : FE} {t u : FT} {i : Nat} {v a b : Val} {c : Nat} {j : Int}
theorem jB (h1 : f ρ = some (.exc ρ1 c j)) : yb f g ρ = some (.exc ρ1 c j) := by
  unfold yb
  rw [h1]
theorem jy (q : E ρ = some (.ok (.s (.int j)))) : kj c E ρ = some (.exc ρ c j) := by
  rw [zcs]
  unfold sE
  rw [q]
  rfl
theorem wcI {t : FT} {body : FS} {n : Nat} (q : t ρ = some (.ok true)) (q2 : body ρ = some (.exc ρ1 c j)) : qw t body (n + 1) ρ = some (.exc ρ1 c j) := by
  unfold qw
  rw [q]
  dsimp only
  rw [q2]
theorem qc4 {h : HF} (q : f ρ = some (.nx ρ1)) : qa2 f h ρ = some (.nx ρ1) := by
  unfold qa2
  rw [q]
theorem zc4 {h : HF} (q : f ρ = some (.exc ρ1 c j)) (q2 : h c j ρ1 = o) : qa2 f h ρ = o := by
  unfold qa2
  rw [q]
  exact q2
theorem vN {A : FA} {vs : List Val} (q : A ρ = some (.ok vs)) (h : vw vs = some ds) (hl : vs.length ≤ 16777216) : yF A ρ = some (.ok (.s (.tuple ds))) := by
  unfold yF
  rw [q]
  dsimp only
  rw [if_pos (zp hl), h]
theorem jc4 (q : E ρ = some (.error (c, j))) : yc i E ρ = some (.exc ρ c j) := by
  rw [zca]
  unfold sE
  rw [q]
theorem wcV {A : FA} {e : Er} (q : E ρ = some (.error e)) : qa E A ρ = some (.error e) := by
  unfold qa
  rw [q]
end
theorem kcB {g : FG} {body : FS} {o : Out} (Inv : Nat → jc → Prop) {ds : List D} {ρ : jc} {m : Nat} (hm : m < ds.length) (h0 : Inv 0 ρ)
    (h : ∀ i d ρ, i < m → ds[i]? = some d → Inv i ρ → ∃ ρ1 ρ2, g d ρ = some ρ1 ∧ body ρ1 = some (.nx ρ2) ∧ Inv (i + 1) ρ2)
    (hr : ∀ d ρ, ds[m]? = some d → Inv m ρ → ∃ ρ1, g d ρ = some ρ1 ∧ body ρ1 = some o) (ho : (∃ d, o = .ret d) ∨ (∃ x, o = .retF x)) : forL g body ds ρ = some o := by
  have go : ∀ (k n : Nat) (ρ : jc), m - n = k → n ≤ m → Inv n ρ → forL g body (ds.drop n) ρ = some o := by
    intro k
    induction k with
    | zero =>
      intro n ρ hk hn hI
      have e : n = m := by omega
      subst e
      obtain ⟨ρ1, h1, h2⟩ := hr ds[n] ρ (List.getElem?_eq_getElem hm) hI
      rw [List.drop_eq_getElem_cons hm]
      unfold forL
      rw [h1]
      dsimp only
      rw [h2]
      rcases ho with ⟨d, rfl⟩ | ⟨x, rfl⟩ <;> rfl
    | succ k ih =>
      intro n ρ hk hn hI
      have hlt : n < ds.length := by omega
      obtain ⟨ρ1, ρ2, h1, h2, h3⟩ := h n ds[n] ρ (by omega) (List.getElem?_eq_getElem hlt) hI
      rw [List.drop_eq_getElem_cons hlt]
      unfold forL
      rw [h1]
      dsimp only
      rw [h2]
      exact ih (n + 1) ρ2 (by omega) (by omega) h3
  have q := go _ 0 ρ rfl (Nat.zero_le _) h0
  rw [List.drop_zero] at q
  exact q
end DL
namespace FL
open PySem PySem.Spec PyProof.Rows L2 DL FN
def atD (ds : List Int) (k many : Int) : Int := if k < ds.length then (ds.getD k.toNat 0) % many else 0
theorem jct (ds : List Int) (k many : Int) (hk : 0 ≤ k) (hm : 0 < many) : je [.list (ds.map .int), .int k, .int many] = some (.ret (.int (atD ds k many))) := by
  unfold je yk atD
  by_cases h : k < ds.length
  · have e := jcs hk h
    simp [jcV, e, h, hk, hm, ycc]
  · simp [h, hk, hm]
def Drawn (ds : List Int) : Prop := ∀ d ∈ ds, 0 ≤ d ∧ d < 65536
theorem za5 {ds : List Int} {d : Int} (h : Drawn ds) (h0 : 0 ≤ d) (h1 : d < 65536) : Drawn (ds ++ [d]) := fun x hx => by
  rcases List.mem_append.mp hx with hx | hx
  · exact h x hx
  · rw [List.mem_singleton.mp hx]
    exact ⟨h0, h1⟩
theorem jcC (s0 s2 s4 s5 : DL.Slot) (ds : List Int) (rest : Int) (hd : Drawn ds) (hl : ds.length ≤ 60 * 63) (h0 : 0 ≤ rest) : ∃ (es : List Int) (r : Int) (s4' : DL.Slot), Drawn es ∧ es.length ≤ ds.length + 60 ∧
    forL (gN 4) (qg (tV (e2 wz (eV 3) (eC (.int 0)))) (yb (xF 1 (e2 zW (eG kN (qa (eV 3) (ya))) (eC (.int 65536)))) (yc 3 (e2 ya2 (eV 3) (eC (.int 65536))))) (qh)) (yh 0 60) [s0, .own (ds.map .int), s2, .dat (.int rest), s4, s5]
      = some (.nx [s0, .own (es.map .int), s2, .dat (.int r), s4', s5]) := by
  have key := wx (g := gN 4) (ds := yh 0 60) (ρ := [s0, .own (ds.map .int), s2, .dat (.int rest), s4, s5])
    (body := qg (tV (e2 wz (eV 3) (eC (.int 0)))) (yb (xF 1 (e2 zW (eG kN (qa (eV 3) (ya))) (eC (.int 65536)))) (yc 3 (e2 ya2 (eV 3) (eC (.int 65536))))) (qh))
    (fun j ρ => ∃ (es : List Int) (r : Int) (s4 : DL.Slot), ρ = [s0, .own (es.map .int), s2, .dat (.int r), s4, s5] ∧ Drawn es ∧ es.length ≤ ds.length + j ∧ 0 ≤ r ∧ j ≤ 60)
    ⟨ds, rest, s4, rfl, hd, Nat.le_refl _, h0, by decide⟩ (by
      rintro j d ρ hj ⟨es, r, s4, rfl, he, hel, hr, _⟩
      have hj : j < 60 := by simpa [yh] using (List.getElem?_eq_some_iff.mp hj).1
      by_cases hpos : 0 < r
      · refine ⟨_, _, rfl, ?_, es ++ [r % 65536], r / 65536, .dat d, rfl, za5 he (by omega) (by omega), by simp; omega, by omega, hj⟩
        have hln : yo (es.length + 1) = true := zp (by omega)
        simp [hpos, wbp, vbp, hln]
      · refine ⟨_, _, rfl, ?_, es, r, .dat d, rfl, he, by omega, hr, hj⟩
        simp [hpos])
  obtain ⟨ρ', h1, es, r, s4', rfl, h3, h4, _⟩ := key
  refine ⟨es, r, s4', h3, ?_, h1⟩
  simpa [yh] using h4
def vaA : FS := yb (yc 3 (eG qcd (qa (e2 yg (eV 0) (eV 2)) (ya)))) (qg (tV (e2 vO (eV 3) (e2 qcA (eC (.int 10)) (eC (.int 18))))) (qz (wi (qa (eC (.int 60)) (ya))) (gN 4) (qg (tV (e2 wz (eV 3) (eC (.int 0)))) (yb (xF 1 (e2 zW (eG kN (qa (eV 3) (ya))) (eC (.int 65536)))) (yc 3 (e2 ya2 (eV 3) (eC (.int 65536))))) (qh))) (yb (yc 5 (e2 zW (eG kN (qa (e2 xb (e2 jq (eV 3) (eC (.int 48271))) (e2 jq (e2 xb (eV 2) (eC (.int 1))) (eC (.int 69621)))) (ya))) (eC (.int 2147483647)))) (yb (yc 5 (e2 zW (eG kN (qa (e2 xb (e2 xb (e2 jq (eV 5) (eC (.int 16807))) (e2 jq (eC (.int 11)) (eV 2))) (eC (.int 5))) (ya))) (eC (.int 2147483629)))) (yb (xF 1 (e2 zW (eG kN (qa (eV 5) (ya))) (eC (.int 65536)))) (xF 1 (e2 zW (eG kN (qa (e2 ya2 (eV 5) (eC (.int 65536))) (ya))) (eC (.int 32768))))))))
theorem qcf (ks : List (D × D)) (cell i : Int) (s3 s4 s5 : DL.Slot) (ds : List Int) (hd : Drawn ds) (hl : ds.length ≤ 60 * 62) (hat : atI ks i = some (.int cell, .none)) (hex : kbn ks = false) :
    ∃ (es : List Int) (s3' s4' s5' : DL.Slot), Drawn es ∧ es.length ≤ ds.length + 60 ∧ vaA [.dat (.dict ks), .own (ds.map .int), .dat (.int i), s3, s4, s5] = some (.nx [.dat (.dict ks), .own (es.map .int), .dat (.int i), s3', s4', s5']) := by
  generalize hrest : (if cell < 0 then -cell else cell) = rest
  have h0 : 0 ≤ rest := by rw [← hrest]; split <;> omega
  by_cases hbig : (1000000000000000000 : Int) ≤ rest
  · obtain ⟨es, r, s4', he, hel, h3⟩ := jcC (.dat (.dict ks)) (.dat (.int i)) s4 s5 ds rest hd (by omega) h0
    refine ⟨es, .dat (.int r), s4', s5, he, hel, ?_⟩
    simp [vaA, hat, hex, hrest, hbig, qaz, h3, xba]
  · have hln : ∀ m, m ≤ 3790 → yo m = true := fun m h => zp (by omega)
    generalize hm1 : (rest * 48271 + (i + 1) * 69621) % 2147483647 = m1
    generalize hm2 : (m1 * 16807 + 11 * i + 5) % 2147483629 = m2
    refine ⟨ds ++ [m2 % 65536] ++ [m2 / 65536 % 32768], .dat (.int rest), s4, .dat (.int m2), za5 (za5 hd (by omega) (by omega)) (by omega) (by omega), by simp, ?_⟩
    simp [vaA, hat, hex, hrest, hbig, qaz, xaQ, ja4, wbp, vbp, hm1, hm2, hln (ds.length + 1) (by omega), hln (ds.length + 1 + 1) (by omega)]
theorem kbL (ns : List Int) (hl : ns.length ≤ 63) : ∃ ds : List Int, Drawn ds ∧ ds.length ≤ 3780 ∧ qae [qW ns] = some (.retF (ds.map .int)) := by
  have hmin : (if ((ns.length : Nat) : Int) < 63 then ((ns.length : Nat) : Int) else 63) = (ns.length : Int) := by split <;> omega
  have key := wx (g := gN 2) (ds := yh 0 ns.length) (ρ := [.dat (qW ns), .own [], .un, .un, .un, .un]) (body := vaA)
    (fun i ρ => ∃ (ds : List Int) (s2 s3 s4 s5 : DL.Slot), ρ = [.dat (qW ns), .own (ds.map .int), s2, s3, s4, s5] ∧ Drawn ds ∧ ds.length ≤ 60 * i ∧ i ≤ ns.length)
    ⟨[], _, _, _, _, rfl, (fun _ h => nomatch h), Nat.zero_le _, Nat.zero_le _⟩ (by
      rintro i d ρ hd ⟨ds, s2, s3, s4, s5, rfl, hdr, hlen, _⟩
      have hi : i < ns.length := by simpa [yh] using (List.getElem?_eq_some_iff.mp hd).1
      have ed : d = .int i := by
        rw [wao, List.getElem?_map, List.getElem?_range hi] at hd
        cases hd
        simp
      subst ed
      have hat : atI (ns.map fun n => ((PyData.int n, PyData.none) : D × D)) (i : Int) = some (.int ns[i], .none) := by
        rw [atI_nat (j := i) (v := (.int ns[i], .none))]
        rw [List.getElem?_map, List.getElem?_eq_getElem hi]
        rfl
      obtain ⟨es, s3', s4', s5', h1, h2, h3⟩ := qcf _ _ i s3 s4 s5 ds hdr (by omega) hat (vbG ns)
      exact ⟨_, _, rfl, h3, es, _, _, _, _, rfl, h1, by omega, hi⟩)
  obtain ⟨ρ', h1, ds, s2, s3, s4, s5, rfl, hd, hlen, _⟩ := key
  have hlen' : ds.length ≤ 3780 := by
    have e : (yh 0 ns.length).length = ns.length := by simp [yh]
    rw [e] at hlen
    omega
  refine ⟨ds, hd, hlen', ?_⟩
  have hr : zab (ns.length : Int) = true := by simp [zab]; omega
  unfold vaA at h1
  simp [qae, zae, hmin, hr, h1, yo]
theorem ybj (ds : List Int) (k m : Int) (hm : 0 < m) : 0 ≤ atD ds k m := by
  unfold atD
  split
  · exact Int.emod_nonneg _ (by omega)
  · exact Int.le_refl _
theorem qbM (ds : List Int) (k m : Int) (hm : 0 < m) : atD ds k m < m := by
  unfold atD
  split
  · exact Int.emod_lt_of_pos _ hm
  · exact hm
theorem jae {fa fb fc : FE} {ρ : jc} {ds : List Int} {k m : Int} (h1 : fa ρ = some (.ok (.s (.list (ds.map .int))))) (h2 : fb ρ = some (.ok (.s (.int k)))) (h3 : fc ρ = some (.ok (.s (.int m)))) (hk : 0 ≤ k) (hm : 0 < m) :
    wc je 3 (qa fa (qa fb (qa fc (ya)))) ρ = some (.ok (.s (.int (atD ds k m)))) := jl (jb h1 (jb h2 (jb h3 qc))) rfl rfl (jct ds k m hk hm)
theorem yA (ds : List Int) (k m : Int) (hm : 0 < m) : ∃ n : Nat, (n : Int) = atD ds k m ∧ (n : Int) < m :=
  ⟨(atD ds k m).toNat, Int.toNat_of_nonneg (ybj ds k m hm), by rw [Int.toNat_of_nonneg (ybj ds k m hm)]; exact qbM ds k m hm⟩
end FL
namespace CR
def P : Nat := 3988292384
def f (x : Nat) : Nat := (x / 2) ^^^ (if x % 2 = 1 then P else 0)
theorem qaT (a b : Nat) : (a ^^^ b) % 2 = (a % 2) ^^^ (b % 2) := Nat.xor_mod_two_pow (n := 1)
theorem ycY (a b c d : Nat) : (a ^^^ b) ^^^ (c ^^^ d) = (a ^^^ c) ^^^ (b ^^^ d) := by
  rw [Nat.xor_assoc, Nat.xor_assoc, ← Nat.xor_assoc b, Nat.xor_comm b c, Nat.xor_assoc c]
theorem xz (a : Nat) : a ^^^ 0 = a := Nat.xor_zero a
theorem qbh (a b : Nat) : f (a ^^^ b) = f a ^^^ f b := by
  unfold f
  rw [Nat.xor_div_two, qaT, ycY]
  congr 1
  rcases Nat.mod_two_eq_zero_or_one a with h | h <;> rcases Nat.mod_two_eq_zero_or_one b with h' | h' <;> rw [h, h'] <;> simp
theorem zbh (a : Nat) : f (2 * a) = a := by
  unfold f
  rw [Nat.mul_div_cancel_left _ (by decide), Nat.mul_mod_right]
  exact xz a
def HV : List Nat := [0, 498536548, 997073096, 651767980, 1994146192, 1802195444, 1303535960, 1342533948, 3988292384, 4027552580, 3604390888, 3412177804, 2607071920, 2262029012, 2685067896, 3183342108]
def g (x : Nat) : Nat := (x / 16) ^^^ (HV.getD (x % 16) 0)
theorem hv4 : ∀ l : Fin 16, f (f (f (f l.1))) = HV.getD l.1 0 := by decide
theorem cancel {a b c : Nat} (h : a ^^^ b = c) : a = c ^^^ b := by
  rw [← h, Nat.xor_assoc, Nat.xor_self, xz]
theorem g_f (x : Nat) : g x = f (f (f (f x))) := by
  have h1 : (x ^^^ x % 16) % 16 = 0 := by
    have q := Nat.xor_mod_two_pow (a := x) (b := x % 16) (n := 4)
    simp only [show (2 : Nat) ^ 4 = 16 from rfl] at q
    rw [q, Nat.mod_mod, Nat.xor_self]
  have h2 : (x ^^^ x % 16) / 16 = x / 16 := by
    have q := Nat.xor_div_two_pow (a := x) (b := x % 16) (n := 4)
    simp only [show (2 : Nat) ^ 4 = 16 from rfl] at q
    rw [q, Nat.div_eq_of_lt (Nat.mod_lt x (by decide)), xz]
  have h3 : x ^^^ x % 16 = 2 * (2 * (2 * (2 * (x / 16)))) := by omega
  have h4 : f (f (f (f (x ^^^ x % 16)))) = x / 16 := by
    rw [h3, zbh, zbh, zbh, zbh]
  rw [qbh, qbh, qbh, qbh] at h4
  rw [cancel h4, hv4 ⟨x % 16, Nat.mod_lt x (by decide)⟩]
  rfl
theorem yan (s b : Nat) : f (s ^^^ b) = f (s ^^^ b % 2) ^^^ (b / 2) := by
  have h1 : (b ^^^ b % 2) % 2 = 0 := by
    rw [qaT, Nat.mod_mod, Nat.xor_self]
  have h2 : (b ^^^ b % 2) / 2 = b / 2 := by
    rw [Nat.xor_div_two, Nat.div_eq_of_lt (Nat.mod_lt b (by decide)), xz]
  have h3 : b ^^^ b % 2 = 2 * (b / 2) := by omega
  have h4 : f (b ^^^ b % 2) = b / 2 := by rw [h3, zbh]
  have h5 : s ^^^ b = (s ^^^ b % 2) ^^^ (b ^^^ b % 2) := by
    rw [ycY, Nat.xor_comm (b % 2), ← Nat.xor_assoc, Nat.xor_assoc (s ^^^ b), Nat.xor_self, xz]
  rw [h5, qbh, h4]
def kR (β : Nat → Nat) (r : Nat) : Nat → Nat
  | 0 => r
  | n + 1 => f (kR β r n ^^^ β n)
theorem jbe (β : Nat → Nat) (r i b : Nat) (hb : b < 256) (h : ∀ j < 8, β (8 * i + j) = b / 2 ^ j % 2) : kR β r (8 * (i + 1)) = g (g (kR β r (8 * i) ^^^ b)) := by
  generalize hs : kR β r (8 * i) = s
  have e : kR β r (8 * (i + 1)) = f (f (f (f (f (f (f (f (s ^^^ β (8 * i)) ^^^ β (8 * i + 1)) ^^^ β (8 * i + 2)) ^^^ β (8 * i + 3)) ^^^ β (8 * i + 4)) ^^^ β (8 * i + 5)) ^^^ β (8 * i + 6)) ^^^ β (8 * i + 7)) := by
    rw [← hs]
    rfl
  rw [e, h 1 (by omega), h 2 (by omega), h 3 (by omega), h 4 (by omega), h 5 (by omega), h 6 (by omega), h 7 (by omega)]
  have h0 : β (8 * i) = b % 2 := by
    have q := h 0 (by omega)
    rw [Nat.add_zero] at q
    rw [q]
    simp
  rw [h0, g_f, g_f, yan s b, yan _ (b / 2), yan _ (b / 2 / 2), yan _ (b / 2 / 2 / 2), yan _ (b / 2 / 2 / 2 / 2), yan _ (b / 2 / 2 / 2 / 2 / 2), yan _ (b / 2 / 2 / 2 / 2 / 2 / 2), yan _ (b / 2 / 2 / 2 / 2 / 2 / 2 / 2)]
  have e7 : b / 2 / 2 / 2 / 2 / 2 / 2 / 2 / 2 = 0 := by omega
  rw [e7, xz]
  simp only [Nat.div_div_eq_div_mul]
theorem kdg {x : Nat} (hx : x < 2 ^ 32) : f x < 2 ^ 32 := by
  unfold f
  refine Nat.xor_lt_two_pow (by omega) ?_
  split
  · decide
  · decide
theorem zcq (β : Nat → Nat) (r : Nat) (hr : r < 2 ^ 32) (hb : ∀ k, β k < 2) : ∀ n, kR β r n < 2 ^ 32
  | 0 => hr
  | n + 1 => kdg (Nat.xor_lt_two_pow (zcq β r hr hb n) (by have := hb n; omega))
end CR
namespace FL
open PySem PySem.Spec PyProof.Rows L2 DL FN
open CR (kR g HV)
theorem bx (a b : Nat) : Builtin.bitXor (a : Int) (b : Int) = ((a ^^^ b : Nat) : Int) := by
  rw [Bits.bitXor_pp (Int.natCast_nonneg a) (Int.natCast_nonneg b)]
  rfl
def J (row : List Nat) : List Int := row.map fun (n : Nat) => (n : Int)
theorem ydc (s : Nat) : atI [PyData.int 0, .int 498536548, .int 997073096, .int 651767980, .int 1994146192, .int 1802195444, .int 1303535960, .int 1342533948, .int 3988292384, .int 4027552580, .int 3604390888, .int 3412177804, .int 2607071920, .int 2262029012, .int 2685067896, .int 3183342108] ((s : Int) % 16) = some (.int ((HV.getD (s % 16) 0 : Nat) : Int)) := by
  have e : ((s : Int) % 16) = ((s % 16 : Nat) : Int) := by omega
  rw [e]
  have h : s % 16 < 16 := Nat.mod_lt _ (by decide)
  have k : ∀ l : Fin 16, atI [PyData.int 0, .int 498536548, .int 997073096, .int 651767980, .int 1994146192, .int 1802195444, .int 1303535960, .int 1342533948, .int 3988292384, .int 4027552580, .int 3604390888, .int 3412177804, .int 2607071920, .int 2262029012, .int 2685067896, .int 3183342108] (l.1 : Int) = some (.int ((HV.getD l.1 0 : Nat) : Int)) := by
    intro l
    rcases l with ⟨l, hl⟩
    rcases (show l = 0 ∨ l = 1 ∨ l = 2 ∨ l = 3 ∨ l = 4 ∨ l = 5 ∨ l = 6 ∨ l = 7 ∨ l = 8 ∨ l = 9 ∨ l = 10 ∨ l = 11 ∨ l = 12 ∨ l = 13 ∨ l = 14 ∨ l = 15 by omega) with h | h | h | h | h | h | h | h | h | h | h | h | h | h | h | h <;> subst h <;> rfl
  exact k ⟨s % 16, h⟩
def vE (row : List Nat) (k : Nat) : Nat := row.getD (k / 8) 0 / 2 ^ (k % 8) % 2
theorem wcD (row : List Nat) (k : Nat) : vE row k < 2 := Nat.mod_lt _ (by decide)
theorem jbN (row : List Nat) (i j : Nat) (hj : j < 8) : vE row (8 * i + j) = row.getD i 0 / 2 ^ j % 2 := by
  unfold vE
  rw [show (8 * i + j) / 8 = i by omega, show (8 * i + j) % 8 = j by omega]
def sumOf (row : List Nat) : Nat := kR (vE row) 4294967295 (8 * row.length) ^^^ 4294967295
theorem ydj {row : List Nat} {i : Nat} {d : D} (h : ((J row).map PyData.int)[i]? = some d) : ∃ hi : i < row.length, d = .int (row[i] : Nat) := by
  obtain ⟨hi, e⟩ := List.getElem?_eq_some_iff.mp h
  simp [J] at hi e
  exact ⟨hi, e.symm⟩
def wap : FS := yb (yc 4 (e2 jx (e2 jV (e2 vF (eV 2) (eV 3)) (eV 1)) (eC (.int 1)))) (yb (yc 1 (e2 vF (eV 1) (eC (.int 1)))) (qg (tV (e2 qu (eV 4) (eC (.int 1)))) (yc 1 (e2 jV (eV 1) (eC (.int 3988292384)))) (qh)))
theorem xdj (s b k : Nat) : CR.f (s ^^^ b / 2 ^ k % 2) = s / 2 ^^^ (if (b / 2 ^ k ^^^ s) % 2 = 1 then 3988292384 else 0) := by
  unfold CR.f
  rw [Nat.xor_div_two, Nat.div_eq_of_lt (Nat.mod_lt (b / 2 ^ k) (by decide)), Nat.xor_zero, CR.qaT, CR.qaT (b / 2 ^ k), Nat.mod_mod, Nat.xor_comm (s % 2)]
  rfl
theorem ycX (s0 s4 : DL.Slot) (s b k : Nat) : ∃ s4', wap [s0, .dat (.int s), .dat (.int b), .dat (.int k), s4] = some (.nx [s0, .dat (.int (CR.f (s ^^^ b / 2 ^ k % 2) : Nat)), .dat (.int b), .dat (.int k), s4']) := by
  have e1 : ((b : Int) / 2 ^ (k : Int).toNat) = ((b / 2 ^ k : Nat) : Int) := by
    rw [Int.toNat_natCast]
    norm_cast
  have e2 : ((s : Int) / 2) = ((s / 2 : Nat) : Int) := by omega
  have e4 : Builtin.bitXor ((s / 2 : Nat) : Int) 3988292384 = ((s / 2 ^^^ 3988292384 : Nat) : Int) := bx _ _
  have hk : wbo (b : Int) (k : Int) = true := yba (Int.natCast_nonneg k)
  have hs : wbo (s : Int) 1 = true := rfl
  rw [xdj]
  refine ⟨.dat (.int (((b / 2 ^ k ^^^ s : Nat) : Int) % 2)), ?_⟩
  by_cases h : (b / 2 ^ k ^^^ s) % 2 = 1
  · have h' : ((b / 2 ^ k ^^^ s : Nat) : Int) % 2 = 1 := by omega
    rw [if_pos h, h']
    simp [wap, hk, hs, e1, e2, bx, bitAnd_m1, h', e4, -Int.toNat_natCast, -Int.natCast_ediv]
  · have h' : ((b / 2 ^ k ^^^ s : Nat) : Int) % 2 = 0 := by omega
    rw [if_neg h, h']
    simp [wap, hk, hs, e1, e2, bx, bitAnd_m1, h', -Int.toNat_natCast, -Int.natCast_ediv]
theorem xcX (s0 s3 s4 : DL.Slot) (s b : Nat) (hb : b < 256) : ∃ s3' s4', qz (wi (qa (eC (.int 8)) (ya))) (gN 3) wap [s0, .dat (.int s), .dat (.int b), s3, s4] = some (.nx [s0, .dat (.int (g (g (s ^^^ b)) : Nat)), .dat (.int b), s3', s4']) := by
  have key := wx (g := gN 3) (ds := yh 0 8) (ρ := [s0, .dat (.int s), .dat (.int b), s3, s4]) (body := wap)
    (fun i ρ => ∃ s3 s4, ρ = [s0, .dat (.int (kR (fun j => b / 2 ^ j % 2) s i : Nat)), .dat (.int b), s3, s4])
    ⟨_, _, rfl⟩ (by
      rintro i d ρ hd ⟨s3, s4, rfl⟩
      have hi : i < 8 := by simpa [yh] using (List.getElem?_eq_some_iff.mp hd).1
      have ed : d = .int i := by
        rw [wao, List.getElem?_map, List.getElem?_range hi] at hd
        cases hd
        simp
      subst ed
      obtain ⟨s4', h⟩ := ycX s0 s4 (kR (fun j => b / 2 ^ j % 2) s i) b i
      exact ⟨_, _, rfl, h, _, _, rfl⟩)
  obtain ⟨ρ', h1, s3', s4', rfl⟩ := key
  refine ⟨s3', s4', ?_⟩
  have h2 : kR (fun j => b / 2 ^ j % 2) s 8 = g (g (s ^^^ b)) := by
    have q := CR.jbe (fun j => b / 2 ^ j % 2) s 0 b hb (fun j _ => by rw [Nat.mul_zero, Nat.zero_add])
    exact q
  have e : (yh 0 8).length = 8 := by simp [yh]
  rw [e, h2] at h1
  have hr : zab 8 = true := by decide
  simp [hr, h1]
theorem ybO (row : List Nat) (hr : ∀ b ∈ row, b < 256) : zD [.list ((J row).map .int)] = some (.ret (.int (sumOf row : Nat))) := by
  have key := wx (g := gN 2) (ds := (J row).map .int) (ρ := [.dat (.list ((J row).map .int)), .dat (.int 4294967295), .un, .un, .un]) (body := qz (wi (qa (eC (.int 8)) (ya))) (gN 3) wap)
    (fun i ρ => ∃ s2 s3 s4, ρ = [.dat (.list ((J row).map .int)), .dat (.int (kR (vE row) 4294967295 (8 * i) : Nat)), s2, s3, s4])
    ⟨_, _, _, rfl⟩ (by
      rintro i d ρ hd ⟨s2, s3, s4, rfl⟩
      obtain ⟨hi, rfl⟩ := ydj hd
      have hb := hr _ (List.getElem_mem hi)
      obtain ⟨s3', s4', h⟩ := xcX (.dat (.list ((J row).map .int))) s3 s4 (kR (vE row) 4294967295 (8 * i)) row[i] hb
      refine ⟨_, _, rfl, h, .dat (.int (row[i] : Nat)), s3', s4', ?_⟩
      rw [CR.jbe (vE row) 4294967295 i row[i] hb (fun j hj => by rw [jbN _ _ _ hj]; simp [hi])])
  obtain ⟨ρ', h1, s2, s3, s4, rfl⟩ := key
  have e : ((J row).map PyData.int).length = row.length := by simp [J]
  rw [e] at h1
  have ex : Builtin.bitXor ((kR (vE row) 4294967295 (8 * row.length) : Nat) : Int) 4294967295 = (sumOf row : Nat) := bx _ _
  have e3 : jX = yb (yc 1 (eC (.int 4294967295))) (yb (qz (yM (eV 0)) (gN 2) (qz (wi (qa (eC (.int 8)) (ya))) (gN 3) wap)) (ji (e2 jV (eV 1) (eC (.int 4294967295))))) := rfl
  generalize qz (wi (qa (eC (.int 8)) (ya))) (gN 3) wap = body at h1 e3
  simp [zD, e3, h1, ex]
def wbG (n : Int) : List Int := [n % 256, n / 256 % 256, n / 65536 % 256, n / 16777216 % 256]
theorem xbz (n : Int) : jD [.int n] = some (.retF ((wbG n).map .int)) := by
  have h : ∀ k : Int, 0 ≤ k → wbo n k = true := fun k => yba
  simp [jD, xae, h, bitAnd_m8, wbG, yo]
theorem xbO (a b c d : Int) (hb : 0 ≤ b) (hb' : b < 256) (hc : 0 ≤ c) (hc' : c < 256) (hd : 0 ≤ d) (hd' : d < 256) : qN [.list [.int a, .int b, .int c, .int d]] = some (.ret (.int (a + b * 256 + c * 65536 + d * 16777216))) := by
  have h1 : zaK b 8 = true := qaz (by omega) (by omega) (by omega) (by omega)
  have h2 : zaK c 16 = true := qaz (by omega) (by omega) (by omega) (by omega)
  have h3 : zaK d 24 = true := qaz (by omega) (by omega) (by omega) (by omega)
  simp [qN, j7, h1, h2, h3, atI, ixN]
end FL
namespace SN
def val (b : Nat → Nat) : Nat → Nat
  | 0 => 0
  | k + 1 => val b k + (b k % 128) * 128 ^ k
theorem xa9 (b : Nat → Nat) : ∀ k, val b (k + 1) = b 0 % 128 + 128 * val (fun j => b (j + 1)) k
  | 0 => by simp [val]
  | k + 1 => by
    have q := xa9 b k
    rw [val, q]
    show _ = b 0 % 128 + 128 * (val (fun j => b (j + 1)) k + (b (k + 1) % 128) * 128 ^ k)
    rw [Nat.mul_add, Nat.pow_succ, Nat.mul_left_comm 128, Nat.mul_comm (128 ^ k) 128, Nat.add_assoc]
def steps (n : Nat) : List Nat := if h : n < 128 then [n] else (n % 128 + 128) :: steps (n / 128)
termination_by n
decreasing_by omega
theorem zaI {n : Nat} (h : n < 128) : steps n = [n] := by
  rw [steps, dif_pos h]
theorem kbg {n : Nat} (h : 128 ≤ n) : steps n = (n % 128 + 128) :: steps (n / 128) := by
  rw [steps, dif_neg (by omega)]
structure Ends (b : Nat → Nat) (p : Nat) : Prop where
  big : ∀ j, j < p → 128 ≤ b j
  small : b p < 128
structure Spec (n : Nat) (l : List Nat) (p : Nat) : Prop where
  len : l.length = p + 1
  ends : Ends (fun j => l.getD j 0) p
  val : val (fun j => l.getD j 0) (p + 1) = n
  wdd : 0 < p → l.getD p 0 ≠ 0
  size : 0 < p → 128 ^ p ≤ n
  byte : ∀ x ∈ l, x < 256
theorem spec : ∀ (m n : Nat), n ≤ m → ∃ p, Spec n (steps n) p := by
  intro m
  induction m with
  | zero =>
    intro n hn
    have e : n = 0 := by omega
    subst e
    rw [zaI (by decide)]
    exact ⟨0, rfl, ⟨fun j hj => absurd hj (Nat.not_lt_zero _), by decide⟩, rfl, fun h => absurd h (by decide), fun h => absurd h (by decide), fun x hx => by rw [List.mem_singleton.mp hx]; decide⟩
  | succ m ih =>
    intro n hn
    by_cases h : n < 128
    · rw [zaI h]
      refine ⟨0, rfl, ⟨fun j hj => absurd hj (Nat.not_lt_zero _), h⟩, ?_, fun h => absurd h (by decide), fun h => absurd h (by decide), fun x hx => by rw [List.mem_singleton.mp hx]; omega⟩
      simp [val]
      omega
    · obtain ⟨p, q⟩ := ih (n / 128) (by omega)
      rw [kbg (by omega)]
      refine ⟨p + 1, by rw [List.length_cons, q.len], ⟨fun j hj => ?_, ?_⟩, ?_, fun _ => ?_, fun _ => ?_, fun x hx => ?_⟩
      · cases j with
        | zero => simp
        | succ j =>
          have := q.ends.big j (by omega)
          simpa using this
      · have := q.ends.small
        simpa using this
      · rw [xa9]
        have e : (fun j => (((n % 128 + 128) :: steps (n / 128)).getD (j + 1) 0)) = fun j => (steps (n / 128)).getD j 0 := by
          funext j
          simp
        have e0 : ((n % 128 + 128) :: steps (n / 128)).getD 0 0 = n % 128 + 128 := by simp
        rw [e, q.val]
        rw [e0]
        omega
      · rcases Nat.eq_zero_or_pos p with hp | hp
        · subst hp
          have h1 := q.val
          simp [val] at h1
          have h2 := q.ends.small
          simp at h2
          simp
          omega
        · have := q.wdd hp
          simpa using this
      · rcases Nat.eq_zero_or_pos p with hp | hp
        · subst hp
          simp
          omega
        · have := q.size hp
          rw [Nat.pow_succ]
          omega
      · rcases List.mem_cons.mp hx with hx | hx
        · omega
        · exact q.byte x hx
theorem jcJ (n : Nat) : ∃ p, Spec n (steps n) p := spec n n (Nat.le_refl _)
theorem Spec.kdj {n p : Nat} {l : List Nat} (s : Spec n l p) (h : n < 2 ^ 40) : p < 6 := by
  rcases Nat.lt_or_ge p 6 with h1 | h1
  · exact h1
  · have h2 := s.size (by omega)
    have h3 : 128 ^ 6 ≤ 128 ^ p := Nat.pow_le_pow_right (by decide) h1
    have h4 : (128 : Nat) ^ 6 = 4398046511104 := by decide
    have h5 : (2 : Nat) ^ 40 = 1099511627776 := by decide
    omega
theorem uniq : ∀ (p : Nat) (b : Nat → Nat), Ends b p → (∀ j, j ≤ p → b j < 256) → (0 < p → b p ≠ 0) → steps (val b (p + 1)) = (List.range (p + 1)).map b
  | 0, b, h, _, _ => by
    have h1 := h.small
    have e : val b (0 + 1) = b 0 := by
      simp [val]
      omega
    rw [e, zaI h1]
    rfl
  | p + 1, b, h, hb, ht => by
    have h0 := h.big 0 (by omega)
    have hb0 := hb 0 (by omega)
    have hnz : 0 < val (fun j => b (j + 1)) (p + 1) := by
      have : val (fun j => b (j + 1)) (p + 1) = val (fun j => b (j + 1)) p + (b (p + 1) % 128) * 128 ^ p := rfl
      have h2 := ht (by omega)
      have h3 := h.small
      have h4 : 1 ≤ b (p + 1) % 128 := by omega
      have h5 : 1 * 128 ^ p ≤ (b (p + 1) % 128) * 128 ^ p := Nat.mul_le_mul_right _ h4
      have h6 : 0 < 128 ^ p := Nat.pow_pos (by decide)
      omega
    have ih := uniq p (fun j => b (j + 1)) ⟨fun j hj => h.big (j + 1) (by omega), h.small⟩ (fun j hj => hb (j + 1) (by omega)) (fun _ => ht (by omega))
    rw [xa9, kbg (by omega)]
    have e1 : (b 0 % 128 + 128 * val (fun j => b (j + 1)) (p + 1)) % 128 + 128 = b 0 := by omega
    have e2 : (b 0 % 128 + 128 * val (fun j => b (j + 1)) (p + 1)) / 128 = val (fun j => b (j + 1)) (p + 1) := by omega
    rw [e1, e2, ih, List.range_succ_eq_map (n := p + 1), List.map_cons, List.map_map]
    rfl
inductive At (b : Nat → Nat) (rest : Nat) : Prop
  | ends (p : Nat) : p < 6 → p < rest → Ends b p → At b rest
  | short : rest < 6 → (∀ j, j < rest → 128 ≤ b j) → At b rest
  | long : 6 ≤ rest → (∀ j, j < 6 → 128 ≤ b j) → At b rest
theorem zbP (b : Nat → Nat) (rest : Nat) : At b rest := by
  have go : ∀ k, k ≤ 6 → k ≤ rest → (∀ j, j < k → 128 ≤ b j) ∨ At b rest := by
    intro k
    induction k with
    | zero => exact fun _ _ => .inl fun j hj => absurd hj (Nat.not_lt_zero _)
    | succ k ih =>
      intro h1 h2
      rcases ih (by omega) (by omega) with h | h
      · by_cases hk : b k < 128
        · exact .inr (.ends k (by omega) (by omega) ⟨h, hk⟩)
        · refine .inl fun j hj => ?_
          rcases Nat.lt_or_ge j k with h3 | h3
          · exact h j h3
          · have e : j = k := by omega
            subst e
            omega
      · exact .inr h
  by_cases hr : 6 ≤ rest
  · rcases go 6 (Nat.le_refl _) hr with h | h
    · exact .long hr h
    · exact h
  · rcases go rest (by omega) (Nat.le_refl _) with h | h
    · exact .short (by omega) h
    · exact h
theorem vap {b : Nat → Nat} {p q : Nat} (h : Ends b p) (h' : Ends b q) : p = q := by
  rcases Nat.lt_trichotomy p q with hl | hl | hl
  · have h1 := h'.big p hl
    have h2 := h.small
    omega
  · exact hl
  · have h1 := h.big q hl
    have h2 := h'.small
    omega
def dig (n : Nat) : List Nat := if h : n < 128 then [n] else (n % 128) :: dig (n / 128)
termination_by n
decreasing_by omega
theorem qbY {n : Nat} (h : n < 128) : dig n = [n] := by
  rw [dig, dif_pos h]
theorem xcy {n : Nat} (h : 128 ≤ n) : dig n = (n % 128) :: dig (n / 128) := by
  rw [dig, dif_neg (by omega)]
theorem vcu : ∀ (m n : Nat), n ≤ m → (dig n).dropLast.map (fun x => x + 128) ++ (dig n).drop ((dig n).length - 1) = steps n ∧ dig n ≠ [] := by
  intro m
  induction m with
  | zero =>
    intro n hn
    rw [qbY (by omega), zaI (by omega)]
    exact ⟨rfl, by simp⟩
  | succ m ih =>
    intro n hn
    by_cases h : n < 128
    · rw [qbY h, zaI h]
      exact ⟨rfl, by simp⟩
    · obtain ⟨q1, q2⟩ := ih (n / 128) (by omega)
      rw [xcy (by omega), kbg (by omega), ← q1]
      refine ⟨?_, by simp⟩
      cases hd : dig (n / 128) with
      | nil => exact absurd hd q2
      | cons y ys => simp
structure Part (n k : Nat) (out : List Nat) (m : Nat) : Prop where
  le : m * 128 ^ k ≤ n
  now : (0 < k ∧ m = 0 ∧ out = dig n) ∨ ((k = 0 ∨ 0 < m) ∧ out ++ dig m = dig n)
theorem part0 (n : Nat) : Part n 0 [] n := ⟨by simp, .inr ⟨.inl rfl, rfl⟩⟩
theorem part_go {n k m : Nat} {out : List Nat} (h : Part n k out m) (hg : k = 0 ∨ 0 < m) : Part n (k + 1) (out ++ [m % 128]) (m / 128) := by
  have hle : m / 128 * 128 ^ (k + 1) ≤ n := by
    have h1 : m / 128 * 128 ≤ m := Nat.div_mul_le_self _ _
    have h2 : m / 128 * 128 * 128 ^ k ≤ m * 128 ^ k := Nat.mul_le_mul_right _ h1
    have h3 : m / 128 * 128 ^ (k + 1) = m / 128 * 128 * 128 ^ k := by
      rw [Nat.pow_succ, Nat.mul_assoc, Nat.mul_comm (128 ^ k)]
    have := h.le
    omega
  have e : out ++ dig m = dig n := by
    rcases h.now with ⟨h1, h2, h3⟩ | ⟨_, h2⟩
    · rcases hg with h4 | h4 <;> omega
    · exact h2
  refine ⟨hle, ?_⟩
  by_cases hm : m < 128
  · refine .inl ⟨by omega, by omega, ?_⟩
    rw [qbY hm] at e
    rw [← e]
    congr 2
    omega
  · refine .inr ⟨.inr (by omega), ?_⟩
    rw [xcy (by omega)] at e
    rw [← e]
    simp
theorem wcu {n k m : Nat} {out : List Nat} (h : Part n k out m) (hg : ¬ (k = 0 ∨ 0 < m)) : Part n (k + 1) out m := by
  rcases h.now with ⟨h1, h2, h3⟩ | ⟨h1, _⟩
  · subst h2
    exact ⟨by simp, .inl ⟨by omega, rfl, h3⟩⟩
  · exact absurd h1 hg
theorem xcD {n m : Nat} {out : List Nat} (h : Part n 7 out m) (hn : n < 2 ^ 49) : out = dig n := by
  have h1 := h.le
  have h2 : (128 : Nat) ^ 7 = 2 ^ 49 := by decide
  rcases h.now with ⟨_, _, h3⟩ | ⟨h3, _⟩
  · exact h3
  · have : 1 * 128 ^ 7 ≤ m * 128 ^ 7 := Nat.mul_le_mul_right _ (by omega)
    omega
end SN
namespace DL
open PySem PySem.Spec PyProof.Rows L2
section
variable {f g : FS} {ρ ρ1 : jc} {o : Option Out} {n k : Nat} {ds : List D} {d : D} {E F fa fb fc : FE} {t u : FT} {i : Nat} {v a b : Val} {c : Nat} {j : Int}
theorem ybK {i j : Int} (ha : fa ρ = some (.ok (.s (.int i)))) (hb : fb ρ = some (.ok (.s (.int j)))) : tV (e2 qu fa fb) ρ = some (.ok (decide (i = j))) := by
  by_cases h : i = j
  · rw [yv ha hb h, decide_eq_true h]
  · rw [vp ha hb h, decide_eq_false h]
theorem wm {i j : Nat} (ha : fa ρ = some (.ok (.s (.int (i : Int))))) (hb : fb ρ = some (.ok (.s (.int (j : Int))))) : e2 xb fa fb ρ = some (.ok (.s (.int ((i + j : Nat) : Int)))) := by
  rw [Int.natCast_add]
  exact vk ha hb
theorem zbj {i j : Int} (ha : fa ρ = some (.ok (.s (.int i)))) (hb : fb ρ = some (.ok (.s (.int j)))) : e2 jx fa fb ρ = some (.ok (.s (.int (Builtin.bitAnd i j)))) := kF ha hb rfl
theorem kce {es : List D} {j : Int} (ha : fa ρ = some (.ok (.f es))) (hb : fb ρ = some (.ok (.s (.int j)))) (h : atI es j = some d) (hs : vj d = true) : e2 yg fa fb ρ = some (.ok (.s d)) := kF ha hb (by
  show (atI es j).map Val.s = _
  rw [h]
  rfl)
theorem kba {es : List D} {j : Int} (ha : fa ρ = some (.ok (.s (.tuple es)))) (hb : fb ρ = some (.ok (.s (.int j)))) (h : atI es j = some d) : e2 yg fa fb ρ = some (.ok (.s d)) := kF ha hb (by
  show (atI es j).map Val.s = _
  rw [h]
  rfl)
theorem kaT {es : List D} (q : E ρ = some (.ok v)) (h : v.seq = some es) : eG xbF (qa E (ya)) ρ = some (.ok (.f es)) := wa4 (jb q qc) (by
  show v.seq.map Val.f = _
  rw [h]
  rfl)
end
theorem vcV {α : Type} (xs : List α) (i : Nat) : vV xs none (some (i : Int)) = xs.take i := by
  unfold vV
  rw [HT.sIx_none, HT.sIx_nat, List.drop_zero, Nat.sub_zero]
  by_cases h : i ≤ xs.length
  · rw [Nat.min_eq_left h]
  · rw [Nat.min_eq_right (by omega), List.take_length, List.take_of_length_le (by omega)]
theorem ycs {α : Type} (xs : List α) (i : Nat) : vV xs (some (i : Int)) none = xs.drop i := by
  unfold vV
  rw [HT.sIx_none, HT.sIx_nat]
  by_cases h : i ≤ xs.length
  · rw [Nat.min_eq_left h, List.take_of_length_le (by rw [List.length_drop]; omega)]
  · rw [Nat.min_eq_right (by omega), List.drop_length, List.drop_of_length_le (by omega), List.take_nil]
theorem qby {α : Type} (xs : List α) : vV xs none (some (-1)) = xs.dropLast := by
  unfold vV
  rw [HT.sIx_none, List.drop_zero, Nat.sub_zero, List.dropLast_eq_take]
  congr 1
  show (if (-1 : Int) < 0 then ((-1 : Int) + (xs.length : Int)).toNat else min (-1 : Int).toNat xs.length) = _
  rw [if_pos (by decide)]
  omega
theorem xcs {α : Type} (xs : List α) : vV xs (some (-1)) none = xs.drop (xs.length - 1) := by
  unfold vV
  rw [HT.sIx_none]
  have e : HT.sIx xs.length 0 (some (-1)) = xs.length - 1 := by
    show (if (-1 : Int) < 0 then ((-1 : Int) + (xs.length : Int)).toNat else min (-1 : Int).toNat xs.length) = _
    rw [if_pos (by decide)]
    omega
  rw [e, List.take_of_length_le (by rw [List.length_drop]; omega)]
theorem kbp (r : List Nat) (n : Nat) : (jd r).take n = jd (r.take n) := by
  unfold jd
  rw [List.map_take]
theorem qbb (r : List Nat) (n : Nat) : (jd r).drop n = jd (r.drop n) := by
  unfold jd
  rw [List.map_drop]
theorem wbc (r : List Nat) : (jd r).dropLast = jd r.dropLast := by
  unfold jd
  rw [List.map_dropLast]
section
variable {ρ ρ1 : jc} {E F : FE} {v : Val} {r : List Nat} {i j : Nat}
theorem xbK (q : E ρ = some (.ok v)) (hv : v = .s (.list (jd r)) ∨ v = .b (jd r) ∨ v = .f (jd r)) (q2 : F ρ = some (.ok (.s (.int (i : Int))))) : jm E jj (ve F) ρ = some (.ok (.f (jd (r.take i)))) := by
  rw [ya4 q hv rfl (kad q2), vcV, kbp]
theorem qaU (q : E ρ = some (.ok v)) (hv : v = .s (.list (jd r)) ∨ v = .b (jd r) ∨ v = .f (jd r)) (q2 : F ρ = some (.ok (.s (.int (i : Int))))) : jm E (ve F) jj ρ = some (.ok (.f (jd (r.drop i)))) := by
  rw [ya4 q hv (kad q2) rfl, ycs, qbb]
theorem zac {G : FE} (q : E ρ = some (.ok v)) (hv : v = .s (.list (jd r)) ∨ v = .b (jd r) ∨ v = .f (jd r)) (q1 : F ρ = some (.ok (.s (.int (i : Int))))) (q2 : G ρ = some (.ok (.s (.int (j : Int))))) (hij : i ≤ j) (hj : j ≤ r.length) : jm E (ve F) (ve G) ρ = some (.ok (.f (jd ((r.drop i).take (j - i))))) := by
  rw [ya4 q hv (kad q1) (kad q2), kbf _ _ _ (by rw [xi]; exact hj) hij, qbb, kbp]
theorem vB {fa fb : FE} {a b : Val} {x y : List Nat} (ha : fa ρ = some (.ok a)) (hb : fb ρ = some (.ok b)) (h1 : a.items = some (jd x)) (h2 : b.items = some (jd y)) (hn : xcc a b = none) (hl : x.length + y.length ≤ 10000000) : e2 xb fa fb ρ = some (.ok (.f (jd (x ++ y)))) := by
  rw [xaT ha hb h1 h2 hn (by rw [xi, xi]; omega), yW]
end
theorem qa5 {g : FG} {body : FS} {o : Out} (Inv : Nat → jc → Prop) {ds : List D} {ρ : jc} {m : Nat} (hm : m < ds.length) (h0 : Inv 0 ρ)
    (h : ∀ i d ρ, i < m → ds[i]? = some d → Inv i ρ → ∃ ρ1 ρ2, g d ρ = some ρ1 ∧ body ρ1 = some (.nx ρ2) ∧ Inv (i + 1) ρ2)
    (hr : ∀ d ρ, ds[m]? = some d → Inv m ρ → ∃ ρ1, g d ρ = some ρ1 ∧ body ρ1 = some o) (ho : (∃ d, o = .ret d) ∨ (∃ x, o = .retF x) ∨ ∃ ρ' c j, o = .exc ρ' c j) : forL g body ds ρ = some o := by
  have go : ∀ (k n : Nat) (ρ : jc), m - n = k → n ≤ m → Inv n ρ → forL g body (ds.drop n) ρ = some o := by
    intro k
    induction k with
    | zero =>
      intro n ρ hk hn hI
      have e : n = m := by omega
      subst e
      obtain ⟨ρ1, h1, h2⟩ := hr ds[n] ρ (List.getElem?_eq_getElem hm) hI
      rw [List.drop_eq_getElem_cons hm]
      unfold forL
      rw [h1]
      dsimp only
      rw [h2]
      rcases ho with ⟨d, rfl⟩ | ⟨x, rfl⟩ | ⟨ρ', c, j, rfl⟩ <;> rfl
    | succ k ih =>
      intro n ρ hk hn hI
      have hlt : n < ds.length := by omega
      obtain ⟨ρ1, ρ2, h1, h2, h3⟩ := h n ds[n] ρ (by omega) (List.getElem?_eq_getElem hlt) hI
      rw [List.drop_eq_getElem_cons hlt]
      unfold forL
      rw [h1]
      dsimp only
      rw [h2]
      exact ih (n + 1) ρ2 (by omega) (by omega) h3
  have q := go _ 0 ρ rfl (Nat.zero_le _) h0
  rw [List.drop_zero] at q
  exact q
theorem wK (lo : Int) (n : Nat) : (yh lo n).length = n := by simp [yh]
theorem kW {lo n : Nat} {i : Nat} {d : D} (h : (yh (lo : Int) n)[i]? = some d) : i < n ∧ d = .int ((lo + i : Nat) : Int) := by
  have hi : i < n := by
    have := (List.getElem?_eq_some_iff.mp h).1
    rw [wK] at this
    exact this
  refine ⟨hi, ?_⟩
  rw [wao, List.getElem?_map, List.getElem?_range hi] at h
  cases h
  rfl
theorem jM {n : Nat} {i : Nat} {d : D} (h : (yh 0 n)[i]? = some d) : i < n ∧ d = .int (i : Int) := by
  have q := kW (lo := 0) h
  rw [Nat.zero_add] at q
  exact q
theorem ycV {r : List Nat} {i : Nat} (h : i < r.length) : atI (jd r) (i : Int) = some (.int (r.getD i 0 : Nat)) := by
  rw [yao h]
  congr 3
  rw [List.getD_eq_getElem?_getD, List.getElem?_eq_getElem h]
  rfl
section
variable {f g : FS} {ρ ρ1 : jc} {o : Option Out} {n k : Nat} {ds : List D} {d : D} {E F fa fb fc : FE} {t u : FT} {i j : Nat} {v a b : Val} {c : Nat}
theorem jbj (ha : fa ρ = some (.ok (.s (.int (i : Int))))) (hb : fb ρ = some (.ok (.s (.int (j : Int))))) (h : j ≤ i) : e2 gSub fa fb ρ = some (.ok (.s (.int ((i - j : Nat) : Int)))) := by
  rw [Int.natCast_sub h]
  exact xW ha hb
theorem xao (ha : fa ρ = some (.ok (.s (.int (i : Int))))) (hb : fb ρ = some (.ok (.s (.int (j : Int))))) (h : i < 1000000000 ∨ j < 1000000000) : e2 jq fa fb ρ = some (.ok (.s (.int ((i * j : Nat) : Int)))) := by
  rw [Int.natCast_mul]
  refine xa4 ha hb ?_
  rcases h with h | h
  · exact xaQ (by omega) (by omega)
  · exact ja4 (by omega) (by omega)
theorem kbK (ha : fa ρ = some (.ok (.s (.int (i : Int))))) (hb : fb ρ = some (.ok (.s (.int 127)))) : e2 jx fa fb ρ = some (.ok (.s (.int ((i % 128 : Nat) : Int)))) := by
  have e : ((i % 128 : Nat) : Int) = Builtin.bitAnd (i : Int) 127 := by
    rw [bitAnd_m7]
    omega
  rw [e]
  exact zbj ha hb
theorem wc4 (ha : fa ρ = some (.ok (.s (.int (i : Int))))) (hb : fb ρ = some (.ok (.s (.int 255)))) : e2 jx fa fb ρ = some (.ok (.s (.int ((i % 256 : Nat) : Int)))) := by
  have e : ((i % 256 : Nat) : Int) = Builtin.bitAnd (i : Int) 255 := by
    rw [bitAnd_m8]
    omega
  rw [e]
  exact zbj ha hb
theorem kcs (k : Nat) : ((2 : Int) ^ (k : Int).toNat) = ((2 ^ k : Nat) : Int) := by
  rw [Int.toNat_natCast, Int.natCast_pow]
  rfl
theorem qbL (ha : fa ρ = some (.ok (.s (.int (i : Int))))) (hb : fb ρ = some (.ok (.s (.int (j : Int))))) : e2 vF fa fb ρ = some (.ok (.s (.int ((i / 2 ^ j : Nat) : Int)))) := kF ha hb (by
  show (if wbo (i : Int) (j : Int) = true then some (Val.s (.int ((i : Int) / 2 ^ (j : Int).toNat))) else none) = _
  rw [if_pos (yba (Int.natCast_nonneg _)), kcs, Int.natCast_ediv])
theorem wbj (ha : fa ρ = some (.ok (.s (.int (i : Int))))) (hb : fb ρ = some (.ok (.s (.int (j : Int))))) (h : i < 1000000000) (h2 : j ≤ 1000000) : e2 zV fa fb ρ = some (.ok (.s (.int ((i * 2 ^ j : Nat) : Int)))) := kF ha hb (by
  show (if zaK (i : Int) (j : Int) = true then some (Val.s (.int ((i : Int) * 2 ^ (j : Int).toNat))) else none) = _
  rw [if_pos (qaz (by omega) (by omega) (by omega) (by omega)), kcs, Int.natCast_mul])
theorem vcI {x y : Int} (ha : fa ρ = some (.ok (.s (.int x)))) (hb : fb ρ = some (.ok (.s (.int y)))) : tV (e2 vO fa fb) ρ = some (.ok (decide (y ≤ x))) := kO (kF ha hb rfl) rfl
theorem ycI {x y : Int} (ha : fa ρ = some (.ok (.s (.int x)))) (hb : fb ρ = some (.ok (.s (.int y)))) : tV (e2 zcB fa fb) ρ = some (.ok (decide (x ≤ y))) := kO (kF ha hb rfl) rfl
theorem yZ {x y : Int} (ha : fa ρ = some (.ok (.s (.int x)))) (hb : fb ρ = some (.ok (.s (.int y)))) (h : y ≤ x) : tV (e2 vO fa fb) ρ = some (.ok true) := by rw [vcI ha hb, decide_eq_true h]
theorem jE {x y : Int} (ha : fa ρ = some (.ok (.s (.int x)))) (hb : fb ρ = some (.ok (.s (.int y)))) (h : x < y) : tV (e2 vO fa fb) ρ = some (.ok false) := by rw [vcI ha hb, decide_eq_false (by omega)]
theorem qbq {x y : Int} (ha : fa ρ = some (.ok (.s (.int x)))) (hb : fb ρ = some (.ok (.s (.int y)))) (h : x ≤ y) : tV (e2 zcB fa fb) ρ = some (.ok true) := by rw [ycI ha hb, decide_eq_true h]
theorem zbq {x y : Int} (ha : fa ρ = some (.ok (.s (.int x)))) (hb : fb ρ = some (.ok (.s (.int y)))) (h : y < x) : tV (e2 zcB fa fb) ρ = some (.ok false) := by rw [ycI ha hb, decide_eq_false (by omega)]
theorem zbL {x y : Int} (ha : fa ρ = some (.ok (.s (.int x)))) (hb : fb ρ = some (.ok (.s (.int y)))) (h1 : -1000000000 < x) (h2 : x < 1000000000) (h3 : -1000000000 < y) (h4 : y < 1000000000) : vZ (qa fa (qa fb (ya))) ρ = some (.ok (yh x (y - x).toNat)) := by
  unfold vZ
  rw [jb ha (jb hb qc)]
  show (if (zab x && zab y) = true then some (Except.ok (yh x (y - x).toNat)) else none) = _
  rw [if_pos (by rw [xba h1 h2, xba h3 h4]; rfl)]
theorem vbj {x : Int} (ha : fa ρ = some (.ok (.s (.int x)))) : e1 xa2 fa ρ = some (.ok (.s (.int (-x)))) := zc3 ha rfl
theorem wq {r : List Nat} (q : E ρ = some (.ok v)) (h : v.d = .list (jd r)) : eG xg (qa E (ya)) ρ = some (.ok (.s (.int (r.length : Int)))) := by
  rw [kaw q h, xi]
theorem jbL {es : List D} (q : E ρ = some (.ok v)) (h : v.d = .tuple es) : eG xg (qa E (ya)) ρ = some (.ok (.s (.int (es.length : Int)))) := by
  refine wa4 (jb q qc) ?_
  unfold xg
  dsimp only
  rw [h]
  rfl
theorem wM {r : List Nat} (ha : fa ρ = some (.ok (.s (.list (jd r))))) (hb : fb ρ = some (.ok (.s (.int (i : Int))))) (h : i < r.length) : e2 yg fa fb ρ = some (.ok (.s (.int (r.getD i 0 : Nat)))) := ka4 ha hb (ycV h)
theorem qct {es : List Nat} (ho : ρ[i]? = some (.own (jd es))) (q : E ρ = some (.ok (.s (.int (j : Int))))) (hl : es.length ≤ 10000000) (e : ρ.set i (.own (jd (es ++ [j]))) = ρ1) : xF i E ρ = some (.nx ρ1) :=
  jbG ho q rfl (by rw [xi]; omega) (by rw [← e, yW]; rfl)
end
theorem xcV {α : Type} {vs : List Nat} {st : jc → D → Option jc} {it : FI} {tt : FT} {fe : FE} {ρ : jc} (dat F : α → D) {xs : List α} (h0 : noOwn ρ vs = true) (ha : it ρ = some (.ok (xs.map dat))) (hl : xs.length ≤ 16777216)
    (h : ∀ x ∈ xs, ∃ ρ1 v, st (ym ρ vs) (dat x) = some ρ1 ∧ tt ρ1 = some (.ok true) ∧ fe ρ1 = some (.ok v) ∧ v.st = some (F x)) : zz vs st it tt fe ρ = some (.ok (.f (xs.map F))) := by
  have e : lcL tt fe (st (ym ρ vs)) (xs.map dat) = some (xs.map F) := ybp dat F h
  unfold zz
  rw [if_pos h0, ha]
  dsimp only
  rw [e]
  dsimp only
  rw [if_pos (zp (by rw [List.length_map]; exact hl))]
end DL
namespace FL
open PySem PySem.Spec PyProof.Rows L2 DL FN
def vf (r : List Nat) (at_ : Nat) : Nat → Nat := fun j => r.getD (at_ + j) 0
noncomputable def yac : FS := yb (qg (tV (e2 vO (eV 2) (eG xg (qa (eV 0) (ya))))) (kj 3 (eG xg (qa (eV 0) (ya)))) (qh)) (qg (tV (e2 jz (e2 yg (eV 0) (eV 2)) (eC (.int 128)))) (ji (e2 xb (eV 2) (eC (.int 1)))) (qh))
theorem kcX (r : List Nat) (a j : Nat) (h : a + j < r.length) (hb : 128 ≤ vf r a j) : yac [.dat (.list (jd r)), .dat (.int (a : Nat)), .dat (.int ((a + j : Nat) : Int))] = some (.nx [.dat (.list (jd r)), .dat (.int (a : Nat)), .dat (.int ((a + j : Nat) : Int))]) := by
  unfold yac
  refine vc (kg (jE (zb rfl) (wq (zb rfl) rfl) (by omega)) rfl) ?_
  unfold vf at hb
  exact kg (xv (wM (zb rfl) (zb rfl) h) rfl (by omega)) rfl
theorem ya5 (r : List Nat) (a : Nat) (ha : a ≤ 100000) (s2 : DL.Slot) : vZ (qa (eV 1) (qa (e2 xb (eV 1) (eC (.int 6))) (ya))) [.dat (.list (jd r)), .dat (.int (a : Nat)), s2] = some (.ok (yh (a : Int) 6)) := by
  have q := zbL (fa := eV 1) (fb := e2 xb (eV 1) (eC (.int 6))) (ρ := [.dat (.list (jd r)), .dat (.int (a : Nat)), s2]) (x := a) (y := a + 6) (zb rfl) (vk (zb rfl) rfl) (by omega) (by omega) (by omega) (by omega)
  rw [show ((a : Int) + 6 - a).toNat = 6 by omega] at q
  exact q
theorem jbg (r : List Nat) (a : Nat) (i : Nat) (d : D) (ρ : jc) (hd : (yh (a : Int) 6)[i]? = some d) (hi : a + i < r.length) (hb : 128 ≤ vf r a i) (h : ∃ s2 : DL.Slot, ρ = [.dat (.list (jd r)), .dat (.int (a : Nat)), s2]) :
    ∃ ρ1 ρ2, gN 2 d ρ = some ρ1 ∧ yac ρ1 = some (.nx ρ2) ∧ ∃ s2 : DL.Slot, ρ2 = [.dat (.list (jd r)), .dat (.int (a : Nat)), s2] := by
  obtain ⟨s2, rfl⟩ := h
  obtain ⟨_, rfl⟩ := kW hd
  exact ⟨_, _, rfl, kcX r a i hi hb, _, rfl⟩
theorem vcD (r : List Nat) (a p : Nat) (ha : a ≤ 100000) (hp : p < 6) (hr : a + p < r.length) (h : SN.Ends (vf r a) p) : xr [.list (jd r), .int (a : Nat)] = some (.ret (.int ((a + p + 1 : Nat) : Int))) := by
  have key := qa5 (g := gN 2) (body := yac) (o := .ret (.int ((a + p + 1 : Nat) : Int))) (ds := yh (a : Int) 6) (ρ := [.dat (.list (jd r)), .dat (.int (a : Nat)), .un]) (m := p) (fun _ ρ => ∃ s2 : DL.Slot, ρ = [.dat (.list (jd r)), .dat (.int (a : Nat)), s2])
    (by rw [wK]; exact hp) ⟨_, rfl⟩ (fun i d ρ hi hd hI => jbg r a i d ρ hd (by omega) (h.big i hi) hI) (by
      rintro d ρ hd ⟨s2, rfl⟩
      obtain ⟨_, rfl⟩ := kW hd
      refine ⟨_, rfl, ?_⟩
      have hs := h.small
      unfold vf at hs
      unfold yac
      refine vc (kg (jE (zb rfl) (wq (zb rfl) rfl) (by omega)) rfl) ?_
      exact wg (qq (wM (zb rfl) (zb rfl) hr) rfl (by omega)) (wu (wm (j := 1) (zb rfl) rfl))) (.inl ⟨_, rfl⟩)
  unfold xr zH
  exact zw (jS (wB (ya5 r a ha _) key))
theorem jcu (r : List Nat) (a : Nat) (ha : a ≤ r.length) (hl : r.length ≤ 100000) (hr : r.length - a < 6) (h : ∀ j, j < r.length - a → 128 ≤ vf r a j) : xr [.list (jd r), .int (a : Nat)] = some (.exc 3 (r.length : Nat)) := by
  have key := qa5 (g := gN 2) (body := yac) (o := .exc [.dat (.list (jd r)), .dat (.int (a : Nat)), .dat (.int ((a + (r.length - a) : Nat) : Int))] 3 (r.length : Nat)) (ds := yh (a : Int) 6) (ρ := [.dat (.list (jd r)), .dat (.int (a : Nat)), .un]) (m := r.length - a) (fun _ ρ => ∃ s2 : DL.Slot, ρ = [.dat (.list (jd r)), .dat (.int (a : Nat)), s2])
    (by rw [wK]; exact hr) ⟨_, rfl⟩ (fun i d ρ hi hd hI => jbg r a i d ρ hd (by omega) (h i hi) hI) (by
      rintro d ρ hd ⟨s2, rfl⟩
      obtain ⟨_, rfl⟩ := kW hd
      refine ⟨_, rfl, ?_⟩
      unfold yac
      exact jB (wg (yZ (zb rfl) (wq (zb rfl) rfl) (by omega)) (jy (wq (zb rfl) rfl)))) (.inr (.inr ⟨_, _, _, rfl⟩))
  unfold xr zH
  exact xu (jB (wB (ya5 r a (by omega) _) key))
theorem ycD (r : List Nat) (a : Nat) (ha : a ≤ 100000) (hr : a + 6 ≤ r.length) (h : ∀ j, j < 6 → 128 ≤ vf r a j) : xr [.list (jd r), .int (a : Nat)] = some (.ret (.int ((a + 6 : Nat) : Int))) := by
  have key := wx (g := gN 2) (body := yac) (ds := yh (a : Int) 6) (ρ := [.dat (.list (jd r)), .dat (.int (a : Nat)), .un]) (fun _ ρ => ∃ s2 : DL.Slot, ρ = [.dat (.list (jd r)), .dat (.int (a : Nat)), s2])
    ⟨_, rfl⟩ (fun i d ρ hd hI => jbg r a i d ρ hd (by have := (kW hd).1; omega) (h i (kW hd).1) hI)
  obtain ⟨ρ', h1, s2, rfl⟩ := key
  unfold xr zH
  exact zw (vc (wB (ya5 r a ha _) h1) (wu (wm (j := 6) (zb rfl) rfl)))
noncomputable def kbO : FS := ya3 3 (fun i j => i + j) (e2 zV (e2 jx (e2 yg (eV 0) (eV 4)) (eC (.int 127))) (e2 jq (eC (.int 7)) (e2 gSub (eV 4) (eV 1))))
theorem qcY (r : List Nat) (a n : Nat) (hn : n ≤ 6) (hr : a + n ≤ r.length) (ha : a ≤ 100000) (s4 : DL.Slot) : ∃ s4' : DL.Slot, qz (vZ (qa (eV 1) (qa (eV 2) (ya)))) (gN 4) kbO [.dat (.list (jd r)), .dat (.int (a : Nat)), .dat (.int ((a + n : Nat) : Int)), .dat (.int 0), s4] = some (.nx [.dat (.list (jd r)), .dat (.int (a : Nat)), .dat (.int ((a + n : Nat) : Int)), .dat (.int (SN.val (vf r a) n : Nat)), s4']) := by
  have key := wx (g := gN 4) (body := kbO) (ds := yh (a : Int) n) (ρ := [.dat (.list (jd r)), .dat (.int (a : Nat)), .dat (.int ((a + n : Nat) : Int)), .dat (.int 0), s4]) (fun i ρ => ∃ s4 : DL.Slot, ρ = [.dat (.list (jd r)), .dat (.int (a : Nat)), .dat (.int ((a + n : Nat) : Int)), .dat (.int (SN.val (vf r a) i : Nat)), s4])
    ⟨_, rfl⟩ (by
      rintro i d ρ hd ⟨s4, rfl⟩
      obtain ⟨hi, rfl⟩ := kW hd
      refine ⟨_, _, rfl, ?_, .dat (.int ((a + i : Nat) : Int)), rfl⟩
      have e1 : a + i - a = i := by omega
      have q := xao (fa := eC (.int 7)) (fb := e2 gSub (eV 4) (eV 1)) (ρ := [.dat (.list (jd r)), .dat (.int (a : Nat)), .dat (.int ((a + n : Nat) : Int)), .dat (.int (SN.val (vf r a) i : Nat)), .dat (.int ((a + i : Nat) : Int))]) (i := 7) (j := a + i - a) rfl (jbj (zb rfl) (zb rfl) (by omega)) (.inl (by decide))
      rw [e1] at q
      refine yce (a := (SN.val (vf r a) i : Nat)) rfl (wbj (kbK (wM (zb rfl) (zb rfl) (by omega)) rfl) q (by omega) (by omega)) ?_
      have e2 : ((SN.val (vf r a) (i + 1) : Nat) : Int) = (SN.val (vf r a) i : Nat) + ((r.getD (a + i) 0 % 128 * 2 ^ (7 * i) : Nat) : Int) := by
        rw [SN.val, Int.natCast_add, Nat.pow_mul]
        rfl
      rw [e2]
      rfl)
  obtain ⟨ρ', h1, s4', rfl⟩ := key
  rw [wK] at h1
  refine ⟨s4', wB ?_ h1⟩
  have q := zbL (fa := eV 1) (fb := eV 2) (ρ := [.dat (.list (jd r)), .dat (.int (a : Nat)), .dat (.int ((a + n : Nat) : Int)), .dat (.int 0), s4]) (x := a) (y := ((a + n : Nat) : Int)) (zb rfl) (zb rfl) (by omega) (by omega) (by omega) (by omega)
  rw [show (((a + n : Nat) : Int) - a).toNat = n by omega] at q
  exact q
inductive Gs (r : List Nat) (a : Nat) : ybf → Prop
  | num (p : Nat) : p < 6 → a + p < r.length → SN.Ends (vf r a) p → SN.val (vf r a) (p + 1) < 2 ^ 40 → ¬ (0 < p ∧ vf r a p = 0) → Gs r a (.ret (.tuple [.int (SN.val (vf r a) (p + 1) : Nat), .int ((a + p + 1 : Nat) : Int)]))
  | loose (p : Nat) : p < 6 → a + p < r.length → SN.Ends (vf r a) p → SN.val (vf r a) (p + 1) < 2 ^ 40 → 0 < p → vf r a p = 0 → Gs r a (.exc 2 (a : Nat))
  | great (p : Nat) : p < 6 → a + p < r.length → SN.Ends (vf r a) p → 2 ^ 40 ≤ SN.val (vf r a) (p + 1) → Gs r a (.exc 1 (a : Nat))
  | long : a + 6 ≤ r.length → (∀ j, j < 6 → 128 ≤ vf r a j) → Gs r a (.exc 1 (a : Nat))
  | short : r.length - a < 6 → (∀ j, j < r.length - a → 128 ≤ vf r a j) → Gs r a (.exc 3 (r.length : Nat))
theorem vcb (r : List Nat) (a n : Nat) (hn : 0 < n) (hr : a + n ≤ r.length) (s3 s4 : DL.Slot) : e2 yg (eV 0) (e2 gSub (eV 2) (eC (.int 1))) [.dat (.list (jd r)), .dat (.int (a : Nat)), .dat (.int ((a + n : Nat) : Int)), s3, s4] = some (.ok (.s (.int (vf r a (n - 1) : Nat)))) := by
  have q := wM (fa := eV 0) (fb := e2 gSub (eV 2) (eC (.int 1))) (ρ := [.dat (.list (jd r)), .dat (.int (a : Nat)), .dat (.int ((a + n : Nat) : Int)), s3, s4]) (r := r) (i := a + n - 1) (zb rfl) (jbj (j := 1) (zb rfl) rfl (by omega)) (by omega)
  unfold vf
  rw [show a + (n - 1) = a + n - 1 by omega]
  exact q
theorem qbP (r : List Nat) (a : Nat) (ha : a ≤ r.length) (hl : r.length ≤ 100000) : ∃ o, vz [.list (jd r), .int (a : Nat)] = some o ∧ Gs r a o := by
  have h40 : (2 : Nat) ^ 40 = 1099511627776 := by decide
  have pre : ∀ (n : Nat), n ≤ 6 → 0 < n → a + n ≤ r.length → xr [.list (jd r), .int (a : Nat)] = some (.ret (.int ((a + n : Nat) : Int))) → ∃ s4 : DL.Slot, ∀ {g : FS} {o : Option Out}, g [.dat (.list (jd r)), .dat (.int (a : Nat)), .dat (.int ((a + n : Nat) : Int)), .dat (.int (SN.val (vf r a) n : Nat)), s4] = o →
      yb (yc 2 (wc FN.xr 2 (qa (eV 0) (qa (eV 1) (ya))))) (yb (yc 3 (eC (.int 0))) (yb (qz (vZ (qa (eV 1) (qa (eV 2) (ya)))) (gN 4) kbO) g)) [.dat (.list (jd r)), .dat (.int (a : Nat)), .un, .un, .un] = o := by
    intro n h6 h0 hn he
    obtain ⟨s4', h1⟩ := qcY r a n h6 hn (by omega) .un
    refine ⟨s4', fun hg => ?_⟩
    refine vc (ρ1 := [.dat (.list (jd r)), .dat (.int (a : Nat)), .dat (.int ((a + n : Nat) : Int)), .un, .un]) (yf (jl (jb (zb rfl) (jb (zb rfl) qc)) rfl rfl he) rfl rfl) ?_
    refine vc (ρ1 := [.dat (.list (jd r)), .dat (.int (a : Nat)), .dat (.int ((a + n : Nat) : Int)), .dat (.int 0), .un]) (yf (v := .s (.int 0)) rfl rfl rfl) ?_
    exact vc h1 hg
  rcases SN.zbP (vf r a) (r.length - a) with ⟨p, hp, hr, he⟩ | ⟨hr, hb⟩ | ⟨hr, hb⟩
  · have h1 := vcD r a p (by omega) hp (by omega) he
    have hs := he.small
    obtain ⟨s4, go⟩ := pre (p + 1) (by omega) (by omega) (by omega) h1
    have hlast := fun s3 => vcb r a (p + 1) (by omega) (by omega) s3 s4
    rw [Nat.add_sub_cancel] at hlast
    by_cases hv : SN.val (vf r a) (p + 1) < 2 ^ 40
    · have first : qg (zB (tV (e2 vO (e2 yg (eV 0) (e2 gSub (eV 2) (eC (.int 1)))) (eC (.int 128)))) (tV (e2 vO (eV 3) (eC (.int 1099511627776))))) (kj 1 (eV 1)) (qh) [.dat (.list (jd r)), .dat (.int (a : Nat)), .dat (.int ((a + (p + 1) : Nat) : Int)), .dat (.int (SN.val (vf r a) (p + 1) : Nat)), s4] = some (.nx [.dat (.list (jd r)), .dat (.int (a : Nat)), .dat (.int ((a + (p + 1) : Nat) : Int)), .dat (.int (SN.val (vf r a) (p + 1) : Nat)), s4]) :=
        kg (vu (jE (hlast _) rfl (by omega)) (jE (zb rfl) rfl (by omega))) rfl
      by_cases hz : 0 < p ∧ vf r a p = 0
      · refine ⟨_, ?_, .loose p hp (by omega) he hv hz.1 hz.2⟩
        unfold vz kG
        exact xu (go (vc first (jB (wg (xai (zy (xW (zb rfl) (zb rfl)) rfl (by omega)) (yv (hlast _) rfl (by omega))) (jy (zb rfl))))))
      · refine ⟨_, ?_, .num p hp (by omega) he hv hz⟩
        unfold vz kG
        refine zw (go (vc first (vc (kg ?_ rfl) (wu (vN (jb (zb rfl) (jb (zb rfl) qc)) rfl (by simp))))))
        by_cases hp0 : 0 < p
        · exact xai (zy (xW (zb rfl) (zb rfl)) rfl (by omega)) (vp (hlast _) rfl (by
            intro e
            exact hz ⟨hp0, by omega⟩))
        · exact qaR (vA (xW (zb rfl) (zb rfl)) rfl (by omega))
    · refine ⟨_, ?_, .great p hp (by omega) he (by omega)⟩
      unfold vz kG
      exact xu (go (jB (wg (vu (jE (hlast _) rfl (by omega)) (yZ (zb rfl) rfl (by omega))) (jy (zb rfl)))))
  · have h1 := jcu r a ha hl hr hb
    refine ⟨_, ?_, .short hr hb⟩
    unfold vz kG
    exact xu (jB (jc4 (jK (jb (zb rfl) (jb (zb rfl) qc)) rfl rfl h1)))
  · have h1 := ycD r a (by omega) (by omega) hb
    obtain ⟨s4, go⟩ := pre 6 (by omega) (by omega) (by omega) h1
    have hlast : ∀ s3, _ := fun s3 => vcb r a 6 (by omega) (by omega) s3 s4
    rw [show 6 - 1 = 5 from rfl] at hlast
    have h5 := hb 5 (by omega)
    refine ⟨_, ?_, .long (by omega) hb⟩
    unfold vz kG
    exact xu (go (jB (wg (xS (yZ (hlast _) rfl (by omega))) (jy (zb rfl)))))
noncomputable def qbr : FS := qg (zB (tV (e2 qu (eV 2) (eC (.int 0)))) (tV (e2 wz (eV 0) (eC (.int 0))))) (yb (xF 1 (e2 jx (eV 0) (eC (.int 127)))) (yc 0 (e2 vF (eV 0) (eC (.int 7))))) (qh)
theorem xa5 (n : Nat) (h : n < 2 ^ 40) : vP [.int (n : Nat)] = some (.retF (jd (SN.steps n))) := by
  have h40 : (2 : Nat) ^ 40 = 1099511627776 := by decide
  have h49 : (2 : Nat) ^ 49 = 562949953421312 := by decide
  have key := wx (g := gN 2) (body := qbr) (ds := yh 0 7) (ρ := [.dat (.int (n : Nat)), .own (jd []), .un, .un]) (fun i ρ => ∃ (m : Nat) (out : List Nat) (s2 : DL.Slot), ρ = [.dat (.int (m : Nat)), .own (jd out), s2, .un] ∧ SN.Part n i out m ∧ out.length ≤ i)
    ⟨n, [], .un, rfl, SN.part0 n, Nat.le_refl _⟩ (by
      rintro i d ρ hd ⟨m, out, s2, rfl, hP, hlen⟩
      obtain ⟨hi, rfl⟩ := jM hd
      have run : (i = 0 ∨ 0 < m) → yb (xF 1 (e2 jx (eV 0) (eC (.int 127)))) (yc 0 (e2 vF (eV 0) (eC (.int 7)))) [.dat (.int (m : Nat)), .own (jd out), .dat (.int (i : Nat)), .un] = some (.nx [.dat (.int (m / 128 : Nat)), .own (jd (out ++ [m % 128])), .dat (.int (i : Nat)), .un]) := fun _ =>
        vc (ρ1 := [.dat (.int (m : Nat)), .own (jd (out ++ [m % 128])), .dat (.int (i : Nat)), .un]) (qct rfl (kbK (zb rfl) rfl) (by omega) rfl) (yf (qbL (j := 7) (zb rfl) rfl) rfl rfl)
      by_cases hg : i = 0 ∨ 0 < m
      · refine ⟨_, _, rfl, ?_, m / 128, out ++ [m % 128], .dat (.int (i : Nat)), rfl, SN.part_go hP hg, by simp; omega⟩
        unfold qbr
        refine wg ?_ (run hg)
        by_cases h0 : i = 0
        · exact xS (yv (zb rfl) rfl (by omega))
        · exact vu (vp (zb rfl) rfl (by omega)) (zy (zb rfl) rfl (by omega))
      · refine ⟨_, _, rfl, ?_, m, out, .dat (.int (i : Nat)), rfl, SN.wcu hP hg, by omega⟩
        unfold qbr
        exact kg (vu (vp (zb rfl) rfl (by omega)) (vA (zb rfl) rfl (by omega))) rfl)
  obtain ⟨ρ', h1, m, out, s2, rfl, hP, hlen⟩ := key
  rw [wK] at hP hlen
  have ho := SN.xcD hP (by omega)
  obtain ⟨hst, _⟩ := SN.vcu n n (Nat.le_refl _)
  rw [← ho] at hst
  unfold vP wX
  refine yai ?_
  refine vc (ρ1 := [.dat (.int (n : Nat)), .own (jd []), .un, .un]) (xad (vn qc rfl (by decide)) rfl) ?_
  refine vc (wB (zE (j := 7) rfl (by decide) (by decide)) h1) (ybi ?_)
  have a1 : jm (eV 1) (jj) (ve (e1 xa2 (eC (.int 1)))) [.dat (.int (m : Nat)), .own (jd out), s2, .un] = some (.ok (.f (jd out.dropLast))) := by
    rw [ya4 (r_b rfl) (.inr (.inl rfl)) rfl (kad (vbj (x := 1) rfl)), qby, wbc]
  have a2 : jm (eV 1) (ve (e1 xa2 (eC (.int 1)))) (jj) [.dat (.int (m : Nat)), .own (jd out), s2, .un] = some (.ok (.f (jd (out.drop (out.length - 1))))) := by
    rw [ya4 (r_b rfl) (.inr (.inl rfl)) (kad (vbj (x := 1) rfl)) rfl, xcs, xi, qbb]
  have a3 := xcV (vs := [3]) (st := wF 3) (tt := fun _ => some (.ok true)) (fe := e2 xb (eV 3) (eC (.int 128))) (dat := fun (n : Nat) => PyData.int (n : Int)) (F := fun (n : Nat) => PyData.int ((n + 128 : Nat) : Int)) (xs := out.dropLast) rfl (xbi a1) (by rw [List.length_dropLast]; omega) (fun x _ => ⟨_, _, rfl, rfl, wm (j := 128) (zb rfl) rfl, rfl⟩)
  have e3 : (out.dropLast.map fun (n : Nat) => PyData.int ((n + 128 : Nat) : Int)) = jd (out.dropLast.map fun x => x + 128) := by
    unfold jd
    rw [List.map_map]
    rfl
  rw [e3] at a3
  have a4 := vB a3 a2 rfl rfl rfl (by simp; omega)
  rw [hst] at a4
  exact a4
end FL
namespace LF
open FL (sumOf vE vf)
theorem wcC (row : List Nat) : sumOf row < 2 ^ 32 := by
  unfold sumOf
  exact Nat.xor_lt_two_pow (CR.zcq _ _ (by decide) (FL.wcD row) _) (by decide)
def four (n : Nat) : List Nat := [n % 256, n / 256 % 256, n / 65536 % 256, n / 16777216 % 256]
def kh (l : List Nat) : Nat := l.getD 0 0 + l.getD 1 0 * 256 + l.getD 2 0 * 65536 + l.getD 3 0 * 16777216
theorem xcu (n : Nat) (h : n < 2 ^ 32) : kh (four n) = n := by
  simp [kh, four]
  omega
theorem ka5 {a b c d : Nat} (ha : a < 256) (hb : b < 256) (hc : c < 256) (hd : d < 256) : four (kh [a, b, c, d]) = [a, b, c, d] := by
  simp [kh, four]
  omega
theorem qcc {a b c d : Nat} (ha : a < 256) (hb : b < 256) (hc : c < 256) (hd : d < 256) : kh [a, b, c, d] < 2 ^ 32 := by
  simp [kh]
  omega
theorem zbr (n : Nat) : ∀ x ∈ four n, x < 256 := by
  intro x hx
  simp [four] at hx
  omega
structure zj where
  kind : Nat
  xk : Nat
  number : Nat
  jf : Nat
  ordinal : Nat
  time : Nat
  span : Nat
  key : Nat
  body : List Nat
structure zj.Ok (l : zj) : Prop where
  kind : l.kind ≤ 4
  xk : l.xk < 2 ^ 32
  number : l.number < 2 ^ 32
  jf : l.jf ≤ 15
  ordinal : l.ordinal ≤ 16777215
  time : l.time ≤ 1099511627775
  span : l.span ≤ 16777215
  key : l.key ≤ 1
  size : l.body.length ≤ 1024
  byte : ∀ x ∈ l.body, x < 256
def zj.fields (l : zj) : List Nat := [l.kind] ++ four l.xk ++ four l.number ++ SN.steps l.jf ++ SN.steps l.ordinal ++ SN.steps l.time ++ SN.steps l.span ++ [l.key] ++ SN.steps l.body.length ++ l.body
def zj.wy (l : zj) : List Nat := l.fields ++ four (sumOf l.fields)
def Good (r : List Nat) (a top p : Nat) : Prop := p < 6 ∧ a + p < r.length ∧ SN.Ends (vf r a) p ∧ SN.val (vf r a) (p + 1) ≤ top ∧ ¬ (0 < p ∧ vf r a p = 0)
open Classical in
noncomputable def rd (r : List Nat) (a top : Nat) : Option (Nat × Nat) := if h : ∃ p, Good r a top p then some (SN.val (vf r a) (Classical.choose h + 1), a + Classical.choose h + 1) else none
theorem jbr {r : List Nat} {a top p : Nat} (h : Good r a top p) : rd r a top = some (SN.val (vf r a) (p + 1), a + p + 1) := by
  unfold rd
  have hh : ∃ p, Good r a top p := ⟨p, h⟩
  rw [dif_pos hh]
  have q := Classical.choose_spec hh
  rw [SN.vap q.2.2.1 h.2.2.1]
theorem j0 {r : List Nat} {a top : Nat} (h : ∀ p, ¬ Good r a top p) : rd r a top = none := by
  unfold rd
  rw [dif_neg (fun ⟨p, q⟩ => h p q)]
theorem kbX (r : List Nat) (a top : Nat) : (∃ p, Good r a top p ∧ rd r a top = some (SN.val (vf r a) (p + 1), a + p + 1)) ∨ ((∀ p, ¬ Good r a top p) ∧ rd r a top = none) := by
  by_cases h : ∃ p, Good r a top p
  · obtain ⟨p, q⟩ := h
    exact .inl ⟨p, q, jbr q⟩
  · exact .inr ⟨fun p q => h ⟨p, q⟩, j0 fun p q => h ⟨p, q⟩⟩
theorem kcp (r : List Nat) (a n : Nat) (h : a + n ≤ r.length) : (List.range n).map (vf r a) = (r.drop a).take n := by
  refine List.ext_getElem (by simp; omega) fun i h1 h2 => ?_
  simp at h1
  simp only [List.getElem_map, List.getElem_range, List.getElem_take, List.getElem_drop, vf]
  rw [List.getD_eq_getElem?_getD, List.getElem?_eq_getElem (by omega)]
  rfl
theorem kaS {r : List Nat} {a top n s : Nat} (hr : ∀ x ∈ r, x < 256) (h : rd r a top = some (n, s)) : r.drop a = SN.steps n ++ r.drop s ∧ s ≤ r.length ∧ n ≤ top ∧ a < s := by
  rcases kbX r a top with ⟨p, q, e⟩ | ⟨_, e⟩
  · rw [e] at h
    cases h
    obtain ⟨h1, h2, h3, h4, h5⟩ := q
    have hb : ∀ j, j ≤ p → vf r a j < 256 := by
      intro j hj
      unfold vf
      rw [List.getD_eq_getElem?_getD, List.getElem?_eq_getElem (by omega)]
      exact hr _ (List.getElem_mem _)
    have u := SN.uniq p (vf r a) h3 hb (fun h0 hz => h5 ⟨h0, hz⟩)
    refine ⟨?_, by omega, h4, by omega⟩
    rw [u, kcp r a (p + 1) (by omega), show a + p + 1 = a + (p + 1) by omega, ← List.drop_drop, List.take_append_drop]
  · rw [e] at h
    cases h
noncomputable def vS (r : List Nat) (jf ordinal time span a4 : Nat) : Except (Nat × Nat) zj :=
  if r.length ≤ a4 ∨ 1 < r.getD a4 0 then .error (12, a4) else
  match rd r (a4 + 1) 1024 with
  | none => .error (13, a4 + 1)
  | some (size, a5) =>
    if r.length < a5 + size then .error (14, a5) else
    if r.drop (a5 + size) ≠ four (sumOf (r.take (a5 + size))) then .error (15, a5 + size) else
    .ok ⟨r.getD 0 0, kh ((r.drop 1).take 4), kh ((r.drop 5).take 4), jf, ordinal, time, span, r.getD a4 0, (r.drop a5).take size⟩
noncomputable def read (r : List Nat) : Except (Nat × Nat) zj :=
  if r.length = 0 ∨ 4 < r.getD 0 0 then .error (5, 0) else
  if r.length < 5 then .error (6, 1) else
  if r.length < 9 then .error (7, 5) else
  match rd r 9 15 with
  | none => .error (8, 9)
  | some (jf, a1) => match rd r a1 16777215 with
    | none => .error (9, a1)
    | some (ordinal, a2) => match rd r a2 1099511627775 with
      | none => .error (10, a2)
      | some (time, a3) => match rd r a3 16777215 with
        | none => .error (11, a3)
        | some (span, a4) => vS r jf ordinal time span a4
theorem jb8 {r : List Nat} {jf ordinal time span a4 : Nat} {l : zj} (hr : ∀ x ∈ r, x < 256) (h : vS r jf ordinal time span a4 = .ok l) : ∃ key size body s, a4 < r.length ∧ key ≤ 1 ∧ r.drop a4 = key :: (SN.steps size ++ (body ++ four (sumOf (r.take s)))) ∧ body.length = size ∧ size ≤ 1024 ∧ s = r.length - 4 ∧ 4 ≤ r.length ∧ a4 + 1 + (SN.steps size).length + size = s ∧ l = ⟨r.getD 0 0, kh ((r.drop 1).take 4), kh ((r.drop 5).take 4), jf, ordinal, time, span, key, body⟩ := by
  unfold vS at h
  split at h
  · cases h
  rename_i h1
  split at h
  · cases h
  rename_i size a5 e5
  split at h
  · cases h
  rename_i h2
  split at h
  · cases h
  rename_i h3
  have h3 : r.drop (a5 + size) = four (sumOf (r.take (a5 + size))) := Classical.byContradiction h3
  cases h
  obtain ⟨q1, q2, q3, q4⟩ := kaS hr e5
  have hl4 : (r.drop (a5 + size)).length = 4 := by rw [h3]; rfl
  rw [List.length_drop] at hl4
  have hlb : ((r.drop a5).take size).length = size := by rw [List.length_take, List.length_drop]; omega
  have hs : a4 + 1 + (SN.steps size).length = a5 := by
    have := congrArg List.length q1
    rw [List.length_append, List.length_drop, List.length_drop] at this
    omega
  refine ⟨r.getD a4 0, size, (r.drop a5).take size, a5 + size, by omega, by omega, ?_, hlb, q3, by omega, by omega, by omega, rfl⟩
  have e4 : r.drop a4 = r.getD a4 0 :: r.drop (a4 + 1) := by
    rw [List.drop_eq_getElem_cons (by omega), List.getD_eq_getElem?_getD, List.getElem?_eq_getElem (by omega)]
    rfl
  rw [e4, q1, ← h3]
  congr 2
  rw [← List.drop_drop, List.take_append_drop]
theorem nine (r : List Nat) (h : 9 ≤ r.length) : ∃ x0 x1 x2 x3 x4 x5 x6 x7 x8 t, r = x0 :: x1 :: x2 :: x3 :: x4 :: x5 :: x6 :: x7 :: x8 :: t := by
  have go : ∀ (n : Nat) (l : List Nat), n + 1 ≤ l.length → ∃ x t, l = x :: t ∧ n ≤ t.length := by
    intro n l h
    cases l with
    | nil => simp at h
    | cons x t => exact ⟨x, t, rfl, by simpa using h⟩
  obtain ⟨x0, t0, rfl, h0⟩ := go 8 r h
  obtain ⟨x1, t1, rfl, h1⟩ := go 7 t0 h0
  obtain ⟨x2, t2, rfl, h2⟩ := go 6 t1 h1
  obtain ⟨x3, t3, rfl, h3⟩ := go 5 t2 h2
  obtain ⟨x4, t4, rfl, h4⟩ := go 4 t3 h3
  obtain ⟨x5, t5, rfl, h5⟩ := go 3 t4 h4
  obtain ⟨x6, t6, rfl, h6⟩ := go 2 t5 h5
  obtain ⟨x7, t7, rfl, h7⟩ := go 1 t6 h6
  obtain ⟨x8, t8, rfl, h8⟩ := go 0 t7 h7
  exact ⟨_, _, _, _, _, _, _, _, _, _, rfl⟩
theorem qcq {r : List Nat} {L : zj} {s : Nat} (whole : r = L.fields ++ four (sumOf (r.take s))) (hs : s = r.length - 4) : L.wy = r := by
  have hlen : L.fields.length = s := by
    have q := congrArg List.length whole
    rw [List.length_append] at q
    have h4 : (four (sumOf (r.take s))).length = 4 := rfl
    omega
  have ht : r.take s = L.fields := by
    rw [← hlen]
    generalize four (sumOf (r.take s)) = f at whole
    rw [whole]
    exact List.take_left
  unfold zj.wy
  rw [← ht]
  rw [ht] at whole
  rw [ht]
  exact whole.symm
theorem vcW {r : List Nat} {l : zj} (hr : ∀ x ∈ r, x < 256) (h : read r = .ok l) : l.Ok ∧ l.wy = r := by
  unfold read at h
  split at h
  · cases h
  rename_i h0
  split at h
  · cases h
  rename_i h5
  split at h
  · cases h
  rename_i h9
  split at h
  · cases h
  rename_i jf a1 e1
  split at h
  · cases h
  rename_i ordinal a2 e2
  split at h
  · cases h
  rename_i time a3 e3
  split at h
  · cases h
  rename_i span a4 e4
  obtain ⟨t1, t2, t3, t4⟩ := kaS hr e1
  obtain ⟨o1, o2, o3, o4⟩ := kaS hr e2
  obtain ⟨m1, m2, m3, m4⟩ := kaS hr e3
  obtain ⟨p1, p2, p3, p4⟩ := kaS hr e4
  obtain ⟨key, size, body, s, k1, k2, k3, k4, k5, k6, k7, k8, rfl⟩ := jb8 hr h
  obtain ⟨x0, x1, x2, x3, x4, x5, x6, x7, x8, t, er⟩ := nine r (by omega)
  have b1 := hr x1 (by rw [er]; simp)
  have b2 := hr x2 (by rw [er]; simp)
  have b3 := hr x3 (by rw [er]; simp)
  have b4 := hr x4 (by rw [er]; simp)
  have b5 := hr x5 (by rw [er]; simp)
  have b6 := hr x6 (by rw [er]; simp)
  have b7 := hr x7 (by rw [er]; simp)
  have b8 := hr x8 (by rw [er]; simp)
  have f1 : (r.drop 1).take 4 = [x1, x2, x3, x4] := by rw [er]; rfl
  have f2 : (r.drop 5).take 4 = [x5, x6, x7, x8] := by rw [er]; rfl
  have f0 : r.getD 0 0 = x0 := by rw [er]; rfl
  have jdd : ∀ x ∈ body, x < 256 := fun x hx => by
    refine hr x (List.mem_of_mem_drop (i := a4) ?_)
    rw [k3]
    simp [hx]
  refine ⟨⟨?_, ?_, ?_, t3, o3, m3, p3, k2, by rw [k4]; exact k5, jdd⟩, ?_⟩
  · show r.getD 0 0 ≤ 4
    omega
  · show kh ((r.drop 1).take 4) < 2 ^ 32
    rw [f1]
    exact qcc b1 b2 b3 b4
  · show kh ((r.drop 5).take 4) < 2 ^ 32
    rw [f2]
    exact qcc b5 b6 b7 b8
  · refine qcq (s := s) ?_ k6
    unfold zj.fields
    dsimp only
    rw [f0, f1, f2, ka5 b1 b2 b3 b4, ka5 b5 b6 b7 b8, k4]
    have e9 : r = x0 :: x1 :: x2 :: x3 :: x4 :: x5 :: x6 :: x7 :: x8 :: r.drop 9 := by rw [er]; rfl
    rw [t1, o1, m1, p1, k3] at e9
    refine e9.trans ?_
    simp only [List.append_assoc, List.cons_append, List.nil_append]
theorem zax {r : List Nat} {a top n s : Nat} (h : rd r a top = some (n, s)) : s ≤ r.length ∧ n ≤ top ∧ a < s := by
  rcases kbX r a top with ⟨p, q, e⟩ | ⟨_, e⟩
  · rw [e] at h
    cases h
    obtain ⟨h1, h2, h3, h4, h5⟩ := q
    exact ⟨by omega, h4, by omega⟩
  · rw [e] at h
    cases h
end LF
namespace FL
open PySem PySem.Spec PyProof.Rows L2 DL FN
open LF (zj)
section
variable {f g : FS} {ρ ρ1 : jc} {o : Out} {E fa fb : FE} {v : Val} {d : D} {c : Nat} {j : Int}
theorem yS {tg : FG} (q : E ρ = some (.ok v)) (h : v.st = some d) (e : tg d ρ = some ρ1) : qD tg E ρ = some (.nx ρ1) := by
  rw [jca]
  unfold sE
  rw [q]
  dsimp only
  rw [h]
  dsimp only
  rw [e]
  rfl
theorem q7 {tg : FG} (q : E ρ = some (.error (c, j))) : qD tg E ρ = some (.exc ρ c j) := by
  rw [jca]
  unfold sE
  rw [q]
theorem kc5 {m : Nat → Option Bool} {gg : FS} {rest : HF} (hm : m c = some true) (h : gg ρ = some (.ret d)) : qaK m gg rest c j ρ = some (.ret d) := by
  unfold qaK
  rw [hm]
  dsimp only
  rw [h]
theorem yaA {a : D} (ha : fa ρ = some (.ok (.s a))) (hb : fb ρ = some (.ok (.s .none))) : tV (e2 wV fa fb) ρ = some (.ok (isNone a)) := kO (kF ha hb rfl) rfl
theorem xA {g : FG} {body : FS} {ρ2 : jc} {ds : List D} {o : Option Out} (h1 : g d ρ = some ρ1) (h2 : body ρ1 = some (.nx ρ2)) (h3 : forL g body ds ρ2 = o) : forL g body (d :: ds) ρ = o := by
  unfold forL
  rw [h1]
  dsimp only
  rw [h2]
  exact h3
end
theorem kcW (n : Nat) : jD [.int (n : Nat)] = some (.retF (jd (LF.four n))) := by
  have q := xbz (n : Int)
  have e : (wbG (n : Int)).map PyData.int = jd (LF.four n) := by
    simp [wbG, LF.four, jd]
  rw [e] at q
  exact q
theorem ycu {a b c d : Nat} (hb : b < 256) (hc : c < 256) (hd : d < 256) : qN [.list (jd [a, b, c, d])] = some (.ret (.int (LF.kh [a, b, c, d] : Nat))) := by
  have q := xbO a b c d (by omega) (by omega) (by omega) (by omega) (by omega) (by omega)
  have e : ((LF.kh [a, b, c, d] : Nat) : Int) = a + b * 256 + c * 65536 + d * 16777216 := by
    simp [LF.kh]
  rw [e]
  exact q
def lfD (l : zj) : D := .tuple [.int (l.kind : Nat), .int (l.xk : Nat), .int (l.number : Nat), .int (l.jf : Nat), .int (l.ordinal : Nat), .int (l.time : Nat), .int (l.span : Nat), .int (l.key : Nat), .list (jd l.body)]
theorem wD (n : Nat) (h : n < 2 ^ 40) : (SN.steps n).length ≤ 6 := by
  obtain ⟨p, s⟩ := SN.jcJ n
  have s1 := s.len
  have s2 := s.kdj h
  omega
theorem wby {l : zj} (h : l.Ok) : ∀ x ∈ l.fields, x < 256 := by
  have st : ∀ n, ∀ x ∈ SN.steps n, x < 256 := fun n => by
    obtain ⟨p, s⟩ := SN.jcJ n
    exact s.byte
  intro x hx
  unfold LF.zj.fields at hx
  simp only [List.mem_append, List.mem_singleton] at hx
  have h1 := h.kind
  have h2 := h.key
  rcases hx with ((((((((hx | hx) | hx) | hx) | hx) | hx) | hx) | hx) | hx) | hx
  · omega
  · exact LF.zbr _ x hx
  · exact LF.zbr _ x hx
  · exact st _ x hx
  · exact st _ x hx
  · exact st _ x hx
  · exact st _ x hx
  · omega
  · exact st _ x hx
  · exact h.byte x hx
theorem zbl {l : zj} (h : l.Ok) : l.fields.length ≤ 1100 ∧ l.fields.length = 10 + (SN.steps l.jf).length + (SN.steps l.ordinal).length + (SN.steps l.time).length + (SN.steps l.span).length + (SN.steps l.body.length).length + l.body.length := by
  have h40 : (2 : Nat) ^ 40 = 1099511627776 := by decide
  have h3 := h.jf
  have h4 := h.ordinal
  have h5 := h.time
  have h6 := h.span
  have h8 := h.size
  have a1 := wD l.jf (by omega)
  have a2 := wD l.ordinal (by omega)
  have a3 := wD l.time (by omega)
  have a4 := wD l.span (by omega)
  have a5 := wD l.body.length (by omega)
  have f4 : ∀ n, (LF.four n).length = 4 := fun _ => rfl
  unfold LF.zj.fields
  simp only [List.length_append, List.length_singleton, f4]
  omega
def stD (a : Nat) : Option (Nat × Nat) → D
  | some (n, s) => .tuple [.int (n : Nat), .int (s : Nat)]
  | none => .tuple [.none, .int (a : Nat)]
theorem kae (r : List Nat) (a top : Nat) (ha : a ≤ r.length) (hl : r.length ≤ 100000) (ht : top < 2 ^ 40) : vm [.list (jd r), .int (a : Nat), .int (top : Nat)] = some (.ret (stD a (LF.rd r a top))) := by
  have h40 : (2 : Nat) ^ 40 = 1099511627776 := by decide
  obtain ⟨o, g1, g2⟩ := qbP r a ha hl
  have bad : ∀ {c : Nat} {j : Int}, vz [.list (jd r), .int (a : Nat)] = some (.exc c j) → mxL [(1, true), (2, true), (3, true)] c = some true → LF.rd r a top = none → vm [.list (jd r), .int (a : Nat), .int (top : Nat)] = some (.ret (stD a (LF.rd r a top))) := by
    intro c j e hm hn
    rw [hn]
    unfold vm jw
    exact zw (jS (zc4 (q7 (jK (jb (zb rfl) (jb (zb rfl) qc)) rfl rfl e)) (kc5 hm (wu (vN (jb rfl (jb (zb rfl) qc)) rfl (by simp))))))
  cases g2 with
  | num p hp hr he hv hz =>
    have run : ∀ {o : Option Out} {g : FS}, g [.dat (.list (jd r)), .dat (.int (a : Nat)), .dat (.int (top : Nat)), .dat (.int (SN.val (vf r a) (p + 1) : Nat)), .dat (.int ((a + p + 1 : Nat) : Int))] = o →
        yb (qa2 (qD (gT 2 (qe 3 (qe 4 (ju)))) (wc FN.vz 2 (qa (eV 0) (qa (eV 1) (ya))))) (qaK (mxL [(1, true), (2, true), (3, true)]) (ji (yF (qa (eC .none) (qa (eV 1) (ya))))) (ybG))) g [.dat (.list (jd r)), .dat (.int (a : Nat)), .dat (.int (top : Nat)), .un, .un] = o := fun {o g} h =>
      vc (qc4 (yS (d := .tuple [.int (SN.val (vf r a) (p + 1) : Nat), .int ((a + p + 1 : Nat) : Int)]) (jl (jb (zb rfl) (jb (zb rfl) qc)) rfl rfl g1) rfl rfl)) h
    by_cases hb : SN.val (vf r a) (p + 1) ≤ top
    · rw [LF.jbr (p := p) ⟨hp, hr, he, hb, hz⟩]
      unfold vm jw
      exact zw (run (vc (kg (vA (zb rfl) (zb rfl) (by omega)) rfl) (wu (vN (jb (zb rfl) (jb (zb rfl) qc)) rfl (by simp)))))
    · rw [LF.j0 fun q ⟨h1, h2, h3, h4, h5⟩ => by
        have := SN.vap h3 he
        subst this
        exact hb h4]
      unfold vm jw
      exact zw (run (jS (wg (zy (zb rfl) (zb rfl) (by omega)) (wu (vN (jb rfl (jb (zb rfl) qc)) rfl (by simp))))))
  | loose p hp hr he hv hp0 hz =>
    exact bad g1 rfl (LF.j0 fun q ⟨h1, h2, h3, h4, h5⟩ => by
      have := SN.vap h3 he
      subst this
      exact h5 ⟨hp0, hz⟩)
  | great p hp hr he hb =>
    exact bad g1 rfl (LF.j0 fun q ⟨h1, h2, h3, h4, h5⟩ => by
      have := SN.vap h3 he
      subst this
      omega)
  | long hr hb =>
    exact bad g1 rfl (LF.j0 fun q ⟨h1, h2, h3, h4, h5⟩ => by
      have := hb q h1
      have := h3.small
      omega)
  | short hr hb =>
    exact bad g1 rfl (LF.j0 fun q ⟨h1, h2, h3, h4, h5⟩ => by
      have := hb q (by omega)
      have := h3.small
      omega)
theorem jbl (l : List Nat) (h : l.length = 4) (hb : ∀ x ∈ l, x < 256) : qN [.list (jd l)] = some (.ret (.int (LF.kh l : Nat))) := by
  match l, h, hb with
  | [a, b, c, d], _, hb => exact ycu (hb b (by simp)) (hb c (by simp)) (hb d (by simp))
theorem wbk (r : List Nat) (h : r.length = 0 ∨ 4 < r.getD 0 0) : xq [.list (jd r)] = some (.exc 5 0) := by
  unfold xq zI
  refine xu (ρ' := [.dat (.list (jd r))]) (jB (wg ?_ (jy rfl)))
  by_cases h0 : r.length = 0
  · exact xS (yv (wq (zb rfl) rfl) rfl (by omega))
  · have h1 : 4 < r.getD 0 0 := h.resolve_left h0
    exact vu (vp (wq (zb rfl) rfl) rfl (by omega)) (zy (wM (i := 0) (zb rfl) rfl (by omega)) rfl (by omega))
theorem kaK (r : List Nat) (h : ¬ (r.length = 0 ∨ 4 < r.getD 0 0)) : qg (zB (tV (e2 qu (eG xg (qa (eV 0) (ya))) (eC (.int 0)))) (tV (e2 wz (e2 yg (eV 0) (eC (.int 0))) (eC (.int 4))))) (kj 5 (eC (.int 0))) (qh) [.dat (.list (jd r))] = some (.nx [.dat (.list (jd r))]) := by
  have h0 : ¬ r.length = 0 := fun e => h (.inl e)
  have h1 : ¬ 4 < r.getD 0 0 := fun e => h (.inr e)
  exact kg (vu (vp (wq (zb rfl) rfl) rfl (by omega)) (vA (wM (i := 0) (zb rfl) rfl (by omega)) rfl (by omega))) rfl
theorem vbk (r : List Nat) (h : ¬ (r.length = 0 ∨ 4 < r.getD 0 0)) (h5 : r.length < 5) : xq [.list (jd r)] = some (.exc 6 1) := by
  unfold xq zI
  exact xu (ρ' := [.dat (.list (jd r))]) (vc (kaK r h) (jB (wg (qq (wq (zb rfl) rfl) rfl (by omega)) (jy rfl))))
theorem ybk (r : List Nat) (h : ¬ (r.length = 0 ∨ 4 < r.getD 0 0)) (h5 : ¬ r.length < 5) (h9 : r.length < 9) : xq [.list (jd r)] = some (.exc 7 5) := by
  unfold xq zI
  exact xu (ρ' := [.dat (.list (jd r))]) (vc (kaK r h) (vc (kg (xv (wq (zb rfl) rfl) rfl (by omega)) rfl) (jB (wg (qq (wq (zb rfl) rfl) rfl (by omega)) (jy rfl)))))
theorem vbz (r : List Nat) (hr : ∀ x ∈ r, x < 256) (h : ¬ (r.length = 0 ∨ 4 < r.getD 0 0)) (h9 : ¬ r.length < 9) : xq [.list (jd r)] = some (.ret (.tuple [.int (r.getD 0 0 : Nat), .int (LF.kh ((r.drop 1).take 4) : Nat), .int (LF.kh ((r.drop 5).take 4) : Nat)])) := by
  have s1 := zac (E := eV 0) (F := eC (.int 1)) (G := eC (.int 5)) (ρ := [.dat (.list (jd r))]) (r := r) (i := 1) (j := 5) (zb rfl) (.inl rfl) rfl rfl (by decide) (by omega)
  have s2 := zac (E := eV 0) (F := eC (.int 5)) (G := eC (.int 9)) (ρ := [.dat (.list (jd r))]) (r := r) (i := 5) (j := 9) (zb rfl) (.inl rfl) rfl rfl (by decide) (by omega)
  have n1 := jbl ((r.drop 1).take 4) (by rw [List.length_take, List.length_drop]; omega) (fun x hx => hr x (List.mem_of_mem_drop (List.mem_of_mem_take hx)))
  have n2 := jbl ((r.drop 5).take 4) (by rw [List.length_take, List.length_drop]; omega) (fun x hx => hr x (List.mem_of_mem_drop (List.mem_of_mem_take hx)))
  unfold xq zI
  refine zw (vc (kaK r h) (vc (kg (xv (wq (zb rfl) rfl) rfl (by omega)) rfl) (vc (kg (xv (wq (zb rfl) rfl) rfl (by omega)) rfl) ?_)))
  exact wu (vN (jb (wM (i := 0) (zb rfl) rfl (by omega)) (jb (jl (jb s1 qc) rfl rfl n1) (jb (jl (jb s2 qc) rfl rfl n2) qc))) rfl (by simp))
noncomputable def ybN (r : List Nat) : ybf :=
  match LF.rd r 9 15 with
  | none => .exc 8 9
  | some (jf, a1) => match LF.rd r a1 16777215 with
    | none => .exc 9 (a1 : Nat)
    | some (ordinal, a2) => match LF.rd r a2 1099511627775 with
      | none => .exc 10 (a2 : Nat)
      | some (time, a3) => match LF.rd r a3 16777215 with
        | none => .exc 11 (a3 : Nat)
        | some (span, a4) => .ret (.tuple [.int (jf : Nat), .int (ordinal : Nat), .int (time : Nat), .int (span : Nat), .int (a4 : Nat)])
theorem jab {ρ : jc} {i : Nat} (h : ρ[i]? = some (.dat .none)) : tV (e2 wV (eV i) (eC .none)) ρ = some (.ok true) := yaA (zb h) rfl
theorem kaA {ρ : jc} {i : Nat} {n : Int} (h : ρ[i]? = some (.dat (.int n))) : tV (e2 wV (eV i) (eC .none)) ρ = some (.ok false) := yaA (zb h) rfl
theorem ybz (r : List Nat) (h9 : 9 ≤ r.length) (hl : r.length ≤ 100000) : jP [.list (jd r)] = some (ybN r) := by
  have q1 := kae r 9 15 h9 hl (by decide)
  unfold ybN
  unfold jP qaf
  cases w1 : LF.rd r 9 15 with
  | none =>
    rw [w1] at q1
    dsimp only
    refine xu (ρ' := [.dat (.list (jd r)), .dat .none, .dat (.int 9), .un, .un, .un, .un, .un, .un]) ?_
    exact vc (yS (jl (jb (zb rfl) (jb rfl (jb rfl qc))) rfl rfl q1) rfl rfl) (jB (wg (jab rfl) (jy rfl)))
  | some p1 =>
    obtain ⟨jf, a1⟩ := p1
    rw [w1] at q1
    obtain ⟨l1, _, _⟩ := LF.zax w1
    have q2 := kae r a1 16777215 l1 hl (by decide)
    have go1 : ∀ {o : Option Out} {g : FS}, g [.dat (.list (jd r)), .dat (.int (jf : Nat)), .dat (.int (a1 : Nat)), .un, .un, .un, .un, .un, .un] = o → yb (qD (gT 2 (qe 1 (qe 2 (ju)))) (wc FN.vm 3 (qa (eV 0) (qa (eC (.int 9)) (qa (eC (.int 15)) (ya)))))) (yb (qg (tV (e2 wV (eV 1) (eC .none))) (kj 8 (eC (.int 9))) (qh)) g) [.dat (.list (jd r)), .un, .un, .un, .un, .un, .un, .un, .un] = o := fun {o g} h =>
      vc (yS (jl (jb (zb rfl) (jb rfl (jb rfl qc))) rfl rfl q1) rfl rfl) (vc (kg (kaA rfl) rfl) h)
    dsimp only
    cases w2 : LF.rd r a1 16777215 with
    | none =>
      rw [w2] at q2
      dsimp only
      refine xu (ρ' := [.dat (.list (jd r)), .dat (.int (jf : Nat)), .dat (.int (a1 : Nat)), .dat .none, .dat (.int (a1 : Nat)), .un, .un, .un, .un]) (go1 ?_)
      exact vc (yS (jl (jb (zb rfl) (jb (zb rfl) (jb rfl qc))) rfl rfl q2) rfl rfl) (jB (wg (jab rfl) (jy (zb rfl))))
    | some p2 =>
      obtain ⟨ordinal, a2⟩ := p2
      rw [w2] at q2
      obtain ⟨l2, _, _⟩ := LF.zax w2
      have q3 := kae r a2 1099511627775 l2 hl (by decide)
      have go2 : ∀ {o : Option Out} {g : FS}, g [.dat (.list (jd r)), .dat (.int (jf : Nat)), .dat (.int (a1 : Nat)), .dat (.int (ordinal : Nat)), .dat (.int (a2 : Nat)), .un, .un, .un, .un] = o → yb (qD (gT 2 (qe 3 (qe 4 (ju)))) (wc FN.vm 3 (qa (eV 0) (qa (eV 2) (qa (eC (.int 16777215)) (ya)))))) (yb (qg (tV (e2 wV (eV 3) (eC .none))) (kj 9 (eV 2)) (qh)) g) [.dat (.list (jd r)), .dat (.int (jf : Nat)), .dat (.int (a1 : Nat)), .un, .un, .un, .un, .un, .un] = o := fun {o g} h =>
        vc (yS (jl (jb (zb rfl) (jb (zb rfl) (jb rfl qc))) rfl rfl q2) rfl rfl) (vc (kg (kaA rfl) rfl) h)
      dsimp only
      cases w3 : LF.rd r a2 1099511627775 with
      | none =>
        rw [w3] at q3
        dsimp only
        refine xu (ρ' := [.dat (.list (jd r)), .dat (.int (jf : Nat)), .dat (.int (a1 : Nat)), .dat (.int (ordinal : Nat)), .dat (.int (a2 : Nat)), .dat .none, .dat (.int (a2 : Nat)), .un, .un]) (go1 (go2 ?_))
        exact vc (yS (jl (jb (zb rfl) (jb (zb rfl) (jb rfl qc))) rfl rfl q3) rfl rfl) (jB (wg (jab rfl) (jy (zb rfl))))
      | some p3 =>
        obtain ⟨time, a3⟩ := p3
        rw [w3] at q3
        obtain ⟨l3, _, _⟩ := LF.zax w3
        have q4 := kae r a3 16777215 l3 hl (by decide)
        have go3 : ∀ {o : Option Out} {g : FS}, g [.dat (.list (jd r)), .dat (.int (jf : Nat)), .dat (.int (a1 : Nat)), .dat (.int (ordinal : Nat)), .dat (.int (a2 : Nat)), .dat (.int (time : Nat)), .dat (.int (a3 : Nat)), .un, .un] = o → yb (qD (gT 2 (qe 5 (qe 6 (ju)))) (wc FN.vm 3 (qa (eV 0) (qa (eV 4) (qa (eC (.int 1099511627775)) (ya)))))) (yb (qg (tV (e2 wV (eV 5) (eC .none))) (kj 10 (eV 4)) (qh)) g) [.dat (.list (jd r)), .dat (.int (jf : Nat)), .dat (.int (a1 : Nat)), .dat (.int (ordinal : Nat)), .dat (.int (a2 : Nat)), .un, .un, .un, .un] = o := fun {o g} h =>
          vc (yS (jl (jb (zb rfl) (jb (zb rfl) (jb rfl qc))) rfl rfl q3) rfl rfl) (vc (kg (kaA rfl) rfl) h)
        dsimp only
        cases w4 : LF.rd r a3 16777215 with
        | none =>
          rw [w4] at q4
          dsimp only
          refine xu (ρ' := [.dat (.list (jd r)), .dat (.int (jf : Nat)), .dat (.int (a1 : Nat)), .dat (.int (ordinal : Nat)), .dat (.int (a2 : Nat)), .dat (.int (time : Nat)), .dat (.int (a3 : Nat)), .dat .none, .dat (.int (a3 : Nat))]) (go1 (go2 (go3 ?_)))
          exact vc (yS (jl (jb (zb rfl) (jb (zb rfl) (jb rfl qc))) rfl rfl q4) rfl rfl) (jB (wg (jab rfl) (jy (zb rfl))))
        | some p4 =>
          obtain ⟨span, a4⟩ := p4
          rw [w4] at q4
          dsimp only
          refine zw (go1 (go2 (go3 ?_)))
          refine vc (yS (jl (jb (zb rfl) (jb (zb rfl) (jb rfl qc))) rfl rfl q4) rfl rfl) (vc (kg (kaA rfl) rfl) ?_)
          exact wu (vN (jb (zb rfl) (jb (zb rfl) (jb (zb rfl) (jb (zb rfl) (jb (zb rfl) qc))))) rfl (by simp))
noncomputable def wcf (r : List Nat) (a : Nat) : ybf :=
  match LF.rd r a 1024 with
  | none => .exc 13 (a : Nat)
  | some (size, a5) => if r.length < a5 + size then .exc 14 (a5 : Nat) else .ret (.tuple [.list (jd ((r.drop a5).take size)), .int ((a5 + size : Nat) : Int)])
theorem vbN (r : List Nat) (a : Nat) (ha : a ≤ r.length) (hl : r.length ≤ 100000) : xM [.list (jd r), .int (a : Nat)] = some (wcf r a) := by
  have q1 := kae r a 1024 ha hl (by decide)
  unfold wcf
  unfold xM qan
  cases w1 : LF.rd r a 1024 with
  | none =>
    rw [w1] at q1
    dsimp only
    refine xu (ρ' := [.dat (.list (jd r)), .dat (.int (a : Nat)), .dat .none, .dat (.int (a : Nat))]) ?_
    exact vc (yS (jl (jb (zb rfl) (jb (zb rfl) (jb rfl qc))) rfl rfl q1) rfl rfl) (jB (wg (jab rfl) (jy (zb rfl))))
  | some p1 =>
    obtain ⟨size, a5⟩ := p1
    rw [w1] at q1
    obtain ⟨l1, _, _⟩ := LF.zax w1
    have go : ∀ {o : Option Out} {g : FS}, g [.dat (.list (jd r)), .dat (.int (a : Nat)), .dat (.int (size : Nat)), .dat (.int (a5 : Nat))] = o → yb (qD (gT 2 (qe 2 (qe 3 (ju)))) (wc FN.vm 3 (qa (eV 0) (qa (eV 1) (qa (eC (.int 1024)) (ya)))))) (yb (qg (tV (e2 wV (eV 2) (eC .none))) (kj 13 (eV 1)) (qh)) g) [.dat (.list (jd r)), .dat (.int (a : Nat)), .un, .un] = o := fun {o g} h =>
      vc (yS (jl (jb (zb rfl) (jb (zb rfl) (jb rfl qc))) rfl rfl q1) rfl rfl) (vc (kg (kaA rfl) rfl) h)
    dsimp only
    by_cases hb : r.length < a5 + size
    · rw [if_pos hb]
      exact xu (go (jB (wg (zy (wm (zb rfl) (zb rfl)) (wq (zb rfl) rfl) (by omega)) (jy (zb rfl)))))
    · rw [if_neg hb]
      have sl := zac (E := eV 0) (F := eV 3) (G := e2 xb (eV 3) (eV 2)) (ρ := [.dat (.list (jd r)), .dat (.int (a : Nat)), .dat (.int (size : Nat)), .dat (.int (a5 : Nat))]) (r := r) (i := a5) (j := a5 + size) (zb rfl) (.inl rfl) (zb rfl) (wm (zb rfl) (zb rfl)) (by omega) (by omega)
      rw [Nat.add_sub_cancel_left] at sl
      exact zw (go (vc (kg (vA (wm (zb rfl) (zb rfl)) (wq (zb rfl) rfl) (by omega)) rfl) (wu (vN (vs := [.f (jd ((r.drop a5).take size)), .s (.int ((a5 + size : Nat) : Int))]) (jb sl (jb (wm (zb rfl) (zb rfl)) qc)) rfl (by simp)))))
def xdi : Except (Nat × Nat) zj → ybf
  | .ok l => .ret (lfD l)
  | .error (c, j) => .exc c (j : Nat)
def ydi (ρ : jc) : Except (Nat × Nat) zj → Out
  | .ok l => .ret (lfD l)
  | .error (c, j) => .exc ρ c (j : Nat)
theorem wbl (x m : Nat) : ∃ y : Nat, y ≤ m ∧ Builtin.bitAnd (x : Int) (m : Int) = (y : Int) := by
  refine ⟨x &&& m, Nat.and_le_right, ?_⟩
  rw [bitAnd_pp (Int.natCast_nonneg x) (Int.natCast_nonneg m)]
  rfl
theorem w7 (ds : List Int) (k : Int) (b : Nat) (hk : 0 ≤ k) (h7 : 7 ≤ b) (hb : b ≤ 64) : ∃ n : Nat, n < 2 ^ b ∧ yC [.list (ds.map .int), .int k, .int (b : Nat)] = some (.ret (.int (n : Nat))) := by
  obtain ⟨x0, hx0, l0⟩ := yA ds k 65536 (by omega)
  obtain ⟨x1, hx1, l1⟩ := yA ds (k + 1) 65536 (by omega)
  obtain ⟨x2, hx2, l2⟩ := yA ds k 256 (by omega)
  have A0 := fun (s3 : DL.Slot) (m : Int) (hm : 0 < m) => jae (fa := eV 0) (fb := eV 1) (fc := eC (.int m)) (ρ := [.dat (.list (ds.map .int)), .dat (.int k), .dat (.int (b : Nat)), s3]) (ds := ds) (k := k) (m := m) rfl (zb rfl) rfl hk hm
  have A1 := fun (s3 : DL.Slot) (fc : FE) (m : Int) (hm : 0 < m) (hc : fc [.dat (.list (ds.map .int)), .dat (.int k), .dat (.int (b : Nat)), s3] = some (.ok (.s (.int m)))) => jae (fa := eV 0) (fb := e2 xb (eV 1) (eC (.int 1))) (fc := fc) (ρ := [.dat (.list (ds.map .int)), .dat (.int k), .dat (.int (b : Nat)), s3]) (ds := ds) (k := k + 1) (m := m) rfl (vk (zb rfl) rfl) hc (by omega) hm
  have a0 := A0 .un 65536 (by decide)
  have a1 := A1 .un (eC (.int 65536)) 65536 (by decide) rfl
  have a2 := A0 .un 256 (by decide)
  rw [← hx0] at a0
  rw [← hx1] at a1
  rw [← hx2] at a2
  generalize hN : x0 + 65536 * x1 + 4294967296 * x2 = N
  have hp : 0 < 2 ^ b := Nat.pow_pos (by decide)
  obtain ⟨y, hy, ey⟩ := wbl N (2 ^ b - 1)
  have hsh : ∃ s : Nat, s ≤ 100 ∧ atI [PyData.int 0, .int ((b - 7 : Nat) : Int), .int (atD ds (k + 1) (b : Nat))] (atD ds k 3) = some (.int (s : Int)) := by
    obtain ⟨n, hn, hn2⟩ := yA ds (k + 1) (b : Int) (by omega)
    have c1 := ybj ds k 3 (by omega)
    have c2 := qbM ds k 3 (by omega)
    generalize atD ds k 3 = j at c1 c2
    rw [← hn]
    rcases (show j = 0 ∨ j = 1 ∨ j = 2 by omega) with h | h | h <;> subst h
    · exact ⟨0, by decide, rfl⟩
    · exact ⟨b - 7, by omega, rfl⟩
    · exact ⟨n, by omega, rfl⟩
  obtain ⟨s, hs, hse⟩ := hsh
  have hle : y / 2 ^ s ≤ y := Nat.div_le_self _ _
  refine ⟨y / 2 ^ s, by omega, ?_⟩
  unfold yC qH
  refine zw ?_
  refine vc (ρ1 := [.dat (.list (ds.map .int)), .dat (.int k), .dat (.int (b : Nat)), .dat (.int (N : Nat))]) (yf (wm (wm a0 (xao (i := 65536) rfl a1 (.inl (by decide)))) (xao (i := 4294967296) rfl a2 (.inr (by omega)))) rfl (by rw [hN]; rfl)) ?_
  have m1 : e2 gSub (e2 zV (eC (.int 1)) (eV 2)) (eC (.int 1)) [.dat (.list (ds.map .int)), .dat (.int k), .dat (.int (b : Nat)), .dat (.int (N : Nat))] = some (.ok (.s (.int ((2 ^ b - 1 : Nat) : Int)))) := by
    have q := jbj (j := 1) (fb := eC (.int 1)) (wbj (fa := eC (.int 1)) (fb := eV 2) (ρ := [.dat (.list (ds.map .int)), .dat (.int k), .dat (.int (b : Nat)), .dat (.int (N : Nat))]) (i := 1) (j := b) rfl (zb rfl) (by decide) (by omega)) rfl (by omega)
    rw [Nat.one_mul] at q
    exact q
  have m2 := zbj (fa := eV 3) (ρ := [.dat (.list (ds.map .int)), .dat (.int k), .dat (.int (b : Nat)), .dat (.int (N : Nat))]) (zb rfl) m1
  rw [ey] at m2
  have m3 : e2 yg (jg (qa (eC (.int 0)) (qa (e2 gSub (eV 2) (eC (.int 7))) (qa (wc FN.je 3 (qa (eV 0) (qa (e2 xb (eV 1) (eC (.int 1))) (qa (eV 2) (ya))))) (ya))))) (wc FN.je 3 (qa (eV 0) (qa (eV 1) (qa (eC (.int 3)) (ya))))) [.dat (.list (ds.map .int)), .dat (.int k), .dat (.int (b : Nat)), .dat (.int (N : Nat))] = some (.ok (.s (.int (s : Int)))) :=
    kce (vn (jb rfl (jb (jbj (j := 7) (zb rfl) rfl h7) (jb (A1 _ (eV 2) (b : Int) (by omega) (zb rfl)) qc))) rfl (by simp)) (A0 _ 3 (by decide)) hse rfl
  exact wu (qbL m2 m3)
theorem wbZ (ds : List Int) (k : Int) (hk : 0 ≤ k) : ∃ l : zj, l.Ok ∧ kM [.list (ds.map .int), .int k] = some (.ret (lfD l)) := by
  have h32 : (2 : Nat) ^ 32 = 4294967296 := by decide
  have h24 : (2 : Nat) ^ 24 = 16777216 := by decide
  have h40 : (2 : Nat) ^ 40 = 1099511627776 := by decide
  obtain ⟨kind, hkind, lkind⟩ := yA ds k 5 (by omega)
  obtain ⟨xk, lstamp, hstamp⟩ := w7 ds (k + 1) 32 (by omega) (by decide) (by decide)
  obtain ⟨number, lnumber, hnumber⟩ := w7 ds (k + 3) 32 (by omega) (by decide) (by decide)
  obtain ⟨jf, htrack, ltrack⟩ := yA ds (k + 5) 16 (by omega)
  obtain ⟨ordinal, lordinal, hordinal⟩ := w7 ds (k + 6) 24 (by omega) (by decide) (by decide)
  obtain ⟨time, ltime, htime⟩ := w7 ds (k + 8) 40 (by omega) (by decide) (by decide)
  obtain ⟨span, lspan, hspan⟩ := w7 ds (k + 10) 24 (by omega) (by decide) (by decide)
  obtain ⟨sz, hsz, lsz⟩ := yA ds (k + 12) 9 (by omega)
  obtain ⟨big, hbig, lbig⟩ := yA ds (k + 13) 905 (by omega)
  obtain ⟨seed, hseed, lseed⟩ := yA ds (k + 13) 65536 (by omega)
  obtain ⟨key, hkey, lkey⟩ := yA ds (k + 14) 2 (by omega)
  have A := fun (s2 s3 s4 s5 s6 s7 s8 s9 s10 s11 : DL.Slot) (q many : Int) (hq : 0 ≤ q) (hmany : 0 < many) => jae (fa := eV 0) (fb := e2 xb (eV 1) (eC (.int q))) (fc := eC (.int many)) (ρ := [.dat (.list (ds.map .int)), .dat (.int k), s2, s3, s4, s5, s6, s7, s8, s9, s10, s11]) (ds := ds) (k := k + q) (m := many) rfl (vk (zb rfl) rfl) rfl (by omega) hmany
  have Wd := fun (s2 s3 s4 s5 s6 s7 s8 s9 s10 s11 : DL.Slot) (q : Int) (b : Nat) (n : Nat) (h : yC [.list (ds.map .int), .int (k + q), .int (b : Nat)] = some (.ret (.int (n : Nat)))) => jl (n := 3) (A := qa (eV 0) (qa (e2 xb (eV 1) (eC (.int q))) (qa (eC (.int (b : Nat))) (ya)))) (ρ := [.dat (.list (ds.map .int)), .dat (.int k), s2, s3, s4, s5, s6, s7, s8, s9, s10, s11]) (jb (zb rfl) (jb (vk (zb rfl) rfl) (jb rfl qc))) rfl rfl h
  have size : ∃ S : Nat, S ≤ 1024 ∧ ∀ s2 s3 s4 s5 s6 s7 s8 : DL.Slot, qg (tV (e2 qu (wc FN.je 3 (qa (eV 0) (qa (e2 xb (eV 1) (eC (.int 12))) (qa (eC (.int 24)) (ya))))) (eC (.int 23)))) (yc 9 (e2 xb (eC (.int 120)) (wc FN.je 3 (qa (eV 0) (qa (e2 xb (eV 1) (eC (.int 13))) (qa (eC (.int 905)) (ya))))))) (qh) [.dat (.list (ds.map .int)), .dat (.int k), s2, s3, s4, s5, s6, s7, s8, .dat (.int (sz : Nat)), .un, .un] = some (.nx [.dat (.list (ds.map .int)), .dat (.int k), s2, s3, s4, s5, s6, s7, s8, .dat (.int (S : Nat)), .un, .un]) := by
    by_cases h : atD ds (k + 12) 24 = 23
    · refine ⟨120 + big, by omega, fun s2 s3 s4 s5 s6 s7 s8 => wg (yv (A _ _ _ _ _ _ _ _ _ _ 12 24 (by decide) (by decide)) rfl h) ?_⟩
      have q := A s2 s3 s4 s5 s6 s7 s8 (.dat (.int (sz : Nat))) .un .un 13 905 (by decide) (by decide)
      rw [← hbig] at q
      exact yf (wm (i := 120) rfl q) rfl rfl
    · exact ⟨sz, by omega, fun s2 s3 s4 s5 s6 s7 s8 => kg (vp (A _ _ _ _ _ _ _ _ _ _ 12 24 (by decide) (by decide)) rfl h) rfl⟩
  obtain ⟨S, hS, hSr⟩ := size
  have menu : ∀ n : Nat, ∃ p : Int × Nat, p.2 < 256 ∧ atI [PyData.int 255, .int 1, .int 7] ((n : Int) % 3) = some (.int p.1) ∧ Builtin.bitAnd ((seed + n * n : Nat) : Int) p.1 = (p.2 : Int) := by
    intro n
    rcases (show (n : Int) % 3 = 0 ∨ (n : Int) % 3 = 1 ∨ (n : Int) % 3 = 2 by omega) with h | h | h <;> rw [h]
    · obtain ⟨y, h1, h2⟩ := wbl (seed + n * n) 255
      exact ⟨(255, y), by show y < 256; omega, rfl, h2⟩
    · obtain ⟨y, h1, h2⟩ := wbl (seed + n * n) 1
      exact ⟨(1, y), by show y < 256; omega, rfl, h2⟩
    · obtain ⟨y, h1, h2⟩ := wbl (seed + n * n) 7
      exact ⟨(7, y), by show y < 256; omega, rfl, h2⟩
  obtain ⟨pick, hpick⟩ := Classical.axiomOfChoice menu
  obtain ⟨yy, hyy0⟩ : ∃ yy : Nat → Nat, yy = fun n => (pick n).2 := ⟨_, rfl⟩
  have hyy : ∀ n, yy n < 256 := fun n => by rw [hyy0]; exact (hpick n).1
  have hmm : ∀ n : Nat, atI [PyData.int 255, .int 1, .int 7] ((n : Int) % 3) = some (.int (pick n).1) := fun n => (hpick n).2.1
  have hand : ∀ n : Nat, Builtin.bitAnd ((seed + n * n : Nat) : Int) (pick n).1 = (yy n : Int) := fun n => by rw [hyy0]; exact (hpick n).2.2
  refine ⟨⟨kind, xk, number, jf, ordinal, time, span, key, (List.range S).map yy⟩, ⟨by show kind ≤ 4; omega, lstamp, lnumber, by show jf ≤ 15; omega, by show ordinal ≤ 16777215; omega, by show time ≤ 1099511627775; omega, by show span ≤ 16777215; omega, by show key ≤ 1; omega, by show ((List.range S).map yy).length ≤ 1024; simp; exact hS, ?_⟩, ?_⟩
  · intro x hx
    obtain ⟨n, _, rfl⟩ := List.mem_map.mp hx
    exact hyy n
  have hr2 := jae (fa := eV 0) (fb := eV 1) (fc := eC (.int 5)) (ρ := [.dat (.list (ds.map .int)), .dat (.int k), .un, .un, .un, .un, .un, .un, .un, .un, .un, .un]) (ds := ds) (k := k) (m := 5) rfl (zb rfl) rfl hk (by decide)
  rw [← hkind] at hr2
  have a5 := fun s2 s3 s4 => A s2 s3 s4 .un .un .un .un .un .un .un 5 16 (by decide) (by decide)
  rw [← htrack] at a5
  have a12 := fun s2 s3 s4 s5 s6 s7 s8 => A s2 s3 s4 s5 s6 s7 s8 .un .un .un 12 9 (by decide) (by decide)
  rw [← hsz] at a12
  unfold kM zan
  refine zw ?_
  refine vc (ρ1 := [.dat (.list (ds.map .int)), .dat (.int k), .dat (.int (kind : Nat)), .un, .un, .un, .un, .un, .un, .un, .un, .un]) (yf hr2 rfl rfl) ?_
  refine vc (ρ1 := [.dat (.list (ds.map .int)), .dat (.int k), .dat (.int (kind : Nat)), .dat (.int (xk : Nat)), .un, .un, .un, .un, .un, .un, .un, .un]) (yf (Wd _ _ _ _ _ _ _ _ _ _ 1 32 xk hstamp) rfl rfl) ?_
  refine vc (ρ1 := [.dat (.list (ds.map .int)), .dat (.int k), .dat (.int (kind : Nat)), .dat (.int (xk : Nat)), .dat (.int (number : Nat)), .un, .un, .un, .un, .un, .un, .un]) (yf (Wd _ _ _ _ _ _ _ _ _ _ 3 32 number hnumber) rfl rfl) ?_
  refine vc (ρ1 := [.dat (.list (ds.map .int)), .dat (.int k), .dat (.int (kind : Nat)), .dat (.int (xk : Nat)), .dat (.int (number : Nat)), .dat (.int (jf : Nat)), .un, .un, .un, .un, .un, .un]) (yf (a5 _ _ _) rfl rfl) ?_
  refine vc (ρ1 := [.dat (.list (ds.map .int)), .dat (.int k), .dat (.int (kind : Nat)), .dat (.int (xk : Nat)), .dat (.int (number : Nat)), .dat (.int (jf : Nat)), .dat (.int (ordinal : Nat)), .un, .un, .un, .un, .un]) (yf (Wd _ _ _ _ _ _ _ _ _ _ 6 24 ordinal hordinal) rfl rfl) ?_
  refine vc (ρ1 := [.dat (.list (ds.map .int)), .dat (.int k), .dat (.int (kind : Nat)), .dat (.int (xk : Nat)), .dat (.int (number : Nat)), .dat (.int (jf : Nat)), .dat (.int (ordinal : Nat)), .dat (.int (time : Nat)), .un, .un, .un, .un]) (yf (Wd _ _ _ _ _ _ _ _ _ _ 8 40 time htime) rfl rfl) ?_
  refine vc (ρ1 := [.dat (.list (ds.map .int)), .dat (.int k), .dat (.int (kind : Nat)), .dat (.int (xk : Nat)), .dat (.int (number : Nat)), .dat (.int (jf : Nat)), .dat (.int (ordinal : Nat)), .dat (.int (time : Nat)), .dat (.int (span : Nat)), .un, .un, .un]) (yf (Wd _ _ _ _ _ _ _ _ _ _ 10 24 span hspan) rfl rfl) ?_
  refine vc (ρ1 := [.dat (.list (ds.map .int)), .dat (.int k), .dat (.int (kind : Nat)), .dat (.int (xk : Nat)), .dat (.int (number : Nat)), .dat (.int (jf : Nat)), .dat (.int (ordinal : Nat)), .dat (.int (time : Nat)), .dat (.int (span : Nat)), .dat (.int (sz : Nat)), .un, .un]) (yf (a12 _ _ _ _ _ _ _) rfl rfl) ?_
  refine vc (hSr _ _ _ _ _ _ _) ?_
  have comp := vao (vs := [11]) (st := wF 11) (a := qa (eV 9) (ya)) (tt := fun _ => some (.ok true)) (fe := e2 jx (eG kN (qa (e2 xb (wc FN.je 3 (qa (eV 0) (qa (e2 xb (eV 1) (eC (.int 13))) (qa (eC (.int 65536)) (ya))))) (e2 jq (eV 11) (eV 11))) (ya))) (e2 yg (jg (qa (eC (.int 255)) (qa (eC (.int 1)) (qa (eC (.int 7)) (ya))))) (e2 zW (eG kN (qa (eV 11) (ya))) (eC (.int 3)))))
    (ρ := [.dat (.list (ds.map .int)), .dat (.int k), .dat (.int (kind : Nat)), .dat (.int (xk : Nat)), .dat (.int (number : Nat)), .dat (.int (jf : Nat)), .dat (.int (ordinal : Nat)), .dat (.int (time : Nat)), .dat (.int (span : Nat)), .dat (.int (S : Nat)), .un, .un]) (n := S) (F := fun n => .int (yy n : Nat)) rfl (zE (j := (S : Int)) (zb rfl) (by omega) (by omega)) (by omega) (fun n hn => by
      refine ⟨_, .s (.int (yy n : Nat)), rfl, rfl, ?_, rfl⟩
      have q := A (.dat (.int (kind : Nat))) (.dat (.int (xk : Nat))) (.dat (.int (number : Nat))) (.dat (.int (jf : Nat))) (.dat (.int (ordinal : Nat))) (.dat (.int (time : Nat))) (.dat (.int (span : Nat))) (.dat (.int (S : Nat))) .un (.dat (.int (n : Nat))) 13 65536 (by decide) (by decide)
      rw [← hseed] at q
      have q2 := zbj (qbj (wm q (xao (fa := eV 11) (fb := eV 11) (zb rfl) (zb rfl) (.inl (by omega))))) (kce (vn (A := qa (eC (.int 255)) (qa (eC (.int 1)) (qa (eC (.int 7)) (ya)))) (jb rfl (jb rfl (jb rfl qc))) rfl (by simp)) (kbi (qbj (fa := eV 11) (zb rfl)) (j := 3) (fb := eC (.int 3)) rfl (by decide)) (hmm n) rfl)
      rw [hand] at q2
      exact q2)
  refine vc (ρ1 := [.dat (.list (ds.map .int)), .dat (.int k), .dat (.int (kind : Nat)), .dat (.int (xk : Nat)), .dat (.int (number : Nat)), .dat (.int (jf : Nat)), .dat (.int (ordinal : Nat)), .dat (.int (time : Nat)), .dat (.int (span : Nat)), .dat (.int (S : Nat)), .dat (.list (jd ((List.range S).map yy))), .un]) (yf comp rfl (by
    unfold jd
    rw [List.map_map]
    rfl)) ?_
  have a14 := A (.dat (.int (kind : Nat))) (.dat (.int (xk : Nat))) (.dat (.int (number : Nat))) (.dat (.int (jf : Nat))) (.dat (.int (ordinal : Nat))) (.dat (.int (time : Nat))) (.dat (.int (span : Nat))) (.dat (.int (S : Nat))) (.dat (.list (jd ((List.range S).map yy)))) .un 14 2 (by decide) (by decide)
  rw [← hkey] at a14
  exact wu (vN (jb (zb rfl) (jb (zb rfl) (jb (zb rfl) (jb (zb rfl) (jb (zb rfl) (jb (zb rfl) (jb (zb rfl) (jb a14 (jb (zb rfl) qc))))))))) rfl (by simp))
theorem ja5 (r : List Nat) (hr : ∀ x ∈ r, x < 256) : zD [.list (jd r)] = some (.ret (.int (sumOf r : Nat))) := by
  rw [zaz]
  exact ybO r hr
theorem ycf (n : Nat) : (List.range 4).map (fun k => n / 2 ^ (8 * k) % 256) = LF.four n := by
  show List.map _ [0, 1, 2, 3] = _
  simp [LF.four]
theorem wcJ {ρ : jc} {v : Nat} {n : Nat} {fe fk : FE} (h0 : noOwn ρ [v] = true) (hf : ∀ k : Nat, ∃ ρ1, wF v (ym ρ [v]) (.int (k : Int)) = some ρ1 ∧ fe ρ1 = some (.ok (.s (.int (n : Int)))) ∧ fk ρ1 = some (.ok (.s (.int (k : Int))))) :
    zz [v] (wF v) (wi (qa (eC (.int 4)) (ya))) (fun _ => some (.ok true)) (e2 jx (e2 vF fe (e2 jq (eC (.int 8)) fk)) (eC (.int 255))) ρ = some (.ok (.f (jd (LF.four n)))) := by
  rw [← ycf]
  have q := vao (vs := [v]) (st := wF v) (a := qa (eC (.int 4)) (ya)) (tt := fun _ => some (.ok true)) (fe := e2 jx (e2 vF fe (e2 jq (eC (.int 8)) fk)) (eC (.int 255))) (ρ := ρ) (n := 4) (F := fun k => .int ((n / 2 ^ (8 * k) % 256 : Nat) : Int)) h0 (zE (j := 4) rfl (by decide) (by decide)) (by decide) (fun k _ => by
    obtain ⟨ρ1, h1, h2, h3⟩ := hf k
    exact ⟨ρ1, _, h1, rfl, wc4 (qbL h2 (xao (i := 8) rfl h3 (.inl (by decide)))) rfl, rfl⟩)
  rw [q]
  unfold jd
  rw [List.map_map]
  rfl
theorem vbq {l : zj} (h : l.Ok) : kB [lfD l] = some (.retF (jd l.wy)) := by
  have h40 : (2 : Nat) ^ 40 = 1099511627776 := by decide
  have h3 := h.jf
  have h4 := h.ordinal
  have h5 := h.time
  have h6 := h.span
  have h8 := h.size
  have a1 := wD l.jf (by omega)
  have a2 := wD l.ordinal (by omega)
  have a3 := wD l.time (by omega)
  have a4 := wD l.span (by omega)
  have a5 := wD l.body.length (by omega)
  have f4 : ∀ n, (LF.four n).length = 4 := fun _ => rfl
  obtain ⟨P, hP⟩ : ∃ P : DL.Slot → DL.Slot → DL.Slot → DL.Slot → jc, P = fun s10 s11 s12 s13 => [.dat (lfD l), .dat (.int (l.kind : Nat)), .dat (.int (l.xk : Nat)), .dat (.int (l.number : Nat)), .dat (.int (l.jf : Nat)), .dat (.int (l.ordinal : Nat)), .dat (.int (l.time : Nat)), .dat (.int (l.span : Nat)), .dat (.int (l.key : Nat)), .dat (.list (jd l.body)), s10, s11, s12, s13] := ⟨_, rfl⟩
  have word : ∀ (R : List Nat) (n : Nat) (s12 s13 : DL.Slot), R.length ≤ 2000 → (¬ s12.j6) → yc 10 (e2 xb (eV 10) (zz [12] (wF 12) (wi (qa (eC (.int 4)) (ya))) (fun _ => some (.ok true)) (e2 jx (e2 vF (eV 11) (e2 jq (eC (.int 8)) (eV 12))) (eC (.int 255))))) (P (.dat (.list (jd R))) (.dat (.int (n : Nat))) s12 s13) = some (.nx (P (.dat (.list (jd (R ++ LF.four n)))) (.dat (.int (n : Nat))) s12 s13)) := by
    intro R n s12 s13 hR hs
    subst hP
    have q := wcJ (ρ := [.dat (lfD l), .dat (.int (l.kind : Nat)), .dat (.int (l.xk : Nat)), .dat (.int (l.number : Nat)), .dat (.int (l.jf : Nat)), .dat (.int (l.ordinal : Nat)), .dat (.int (l.time : Nat)), .dat (.int (l.span : Nat)), .dat (.int (l.key : Nat)), .dat (.list (jd l.body)), .dat (.list (jd R)), .dat (.int (n : Nat)), s12, s13]) (v := 12) (n := n) (fe := eV 11) (fk := eV 12) (by
      cases s12 with
      | own z => exact absurd trivial hs
      | ownT _ _ _ => exact absurd trivial hs
      | yV _ _ => exact absurd trivial hs
      | _ => rfl) (fun k => ⟨_, rfl, zb rfl, zb rfl⟩)
    exact yf (vB (zb rfl) q rfl rfl rfl (by rw [f4]; omega)) rfl rfl
  have yN : ∀ (R : List Nat) (n : Nat) (s11 s12 : DL.Slot), R.length ≤ 2000 → n < 2 ^ 40 → yc 10 (e2 xb (eV 10) (wc FN.vP 1 (qa (eV 13) (ya)))) (P (.dat (.list (jd R))) s11 s12 (.dat (.int (n : Nat)))) = some (.nx (P (.dat (.list (jd (R ++ SN.steps n)))) s11 s12 (.dat (.int (n : Nat))))) := by
    intro R n s11 s12 hR hn
    subst hP
    have := wD n hn
    exact yf (vB (zb rfl) (qP (jb (zb rfl) qc) rfl rfl (xa5 n hn)) rfl rfl rfl (by omega)) rfl rfl
  unfold kB j1
  refine yai ?_
  refine vc (ρ1 := P .un .un .un .un) (yS (zb rfl) rfl (by rw [hP]; rfl)) ?_
  refine vc (ρ1 := P (.dat (.list (jd [l.kind]))) .un .un .un) (by
    subst hP
    exact yf (vn (jb (zb rfl) qc) rfl (by simp)) rfl rfl) ?_
  refine vc (ρ1 := P (.dat (.list (jd ([l.kind] ++ LF.four l.xk ++ LF.four l.number)))) (.dat (.int (l.number : Nat))) .un .un) (wB (xs := [.int (l.xk : Nat), .int (l.number : Nat)]) (by rw [hP]; rfl) ?_) ?_
  · refine xA (ρ1 := P (.dat (.list (jd [l.kind]))) (.dat (.int (l.xk : Nat))) .un .un) (by rw [hP]; rfl) (word _ _ _ _ (by simp) (fun e => nomatch e)) ?_
    refine xA (ρ1 := P (.dat (.list (jd ([l.kind] ++ LF.four l.xk)))) (.dat (.int (l.number : Nat))) .un .un) (by rw [hP]; rfl) (word _ _ _ _ (by simp [f4]) (fun e => nomatch e)) ?_
    rfl
  refine vc (ρ1 := P (.dat (.list (jd ([l.kind] ++ LF.four l.xk ++ LF.four l.number ++ SN.steps l.jf ++ SN.steps l.ordinal ++ SN.steps l.time ++ SN.steps l.span)))) (.dat (.int (l.number : Nat))) .un (.dat (.int (l.span : Nat)))) (wB (xs := [.int (l.jf : Nat), .int (l.ordinal : Nat), .int (l.time : Nat), .int (l.span : Nat)]) (by rw [hP]; rfl) ?_) ?_
  · refine xA (ρ1 := P (.dat (.list (jd ([l.kind] ++ LF.four l.xk ++ LF.four l.number)))) (.dat (.int (l.number : Nat))) .un (.dat (.int (l.jf : Nat)))) (by rw [hP]; rfl) (yN _ _ _ _ (by simp [f4]) (by omega)) ?_
    refine xA (ρ1 := P (.dat (.list (jd ([l.kind] ++ LF.four l.xk ++ LF.four l.number ++ SN.steps l.jf)))) (.dat (.int (l.number : Nat))) .un (.dat (.int (l.ordinal : Nat)))) (by rw [hP]; rfl) (yN _ _ _ _ (by simp [f4]; omega) (by omega)) ?_
    refine xA (ρ1 := P (.dat (.list (jd ([l.kind] ++ LF.four l.xk ++ LF.four l.number ++ SN.steps l.jf ++ SN.steps l.ordinal)))) (.dat (.int (l.number : Nat))) .un (.dat (.int (l.time : Nat)))) (by rw [hP]; rfl) (yN _ _ _ _ (by simp [f4]; omega) (by omega)) ?_
    refine xA (ρ1 := P (.dat (.list (jd ([l.kind] ++ LF.four l.xk ++ LF.four l.number ++ SN.steps l.jf ++ SN.steps l.ordinal ++ SN.steps l.time)))) (.dat (.int (l.number : Nat))) .un (.dat (.int (l.span : Nat)))) (by rw [hP]; rfl) (yN _ _ _ _ (by simp [f4]; omega) (by omega)) ?_
    rfl
  generalize hR : [l.kind] ++ LF.four l.xk ++ LF.four l.number ++ SN.steps l.jf ++ SN.steps l.ordinal ++ SN.steps l.time ++ SN.steps l.span = R
  have lR : R.length ≤ 33 := by rw [← hR]; simp [f4]; omega
  refine vc (ρ1 := P (.dat (.list (jd l.fields))) (.dat (.int (l.number : Nat))) .un (.dat (.int (l.span : Nat)))) ?_ ?_
  · subst hP
    refine yf (vB (vB (vB (zb rfl) (vn (ds := jd [l.key]) (jb (zb rfl) qc) rfl (by simp)) rfl rfl rfl (by simp; omega)) (qP (jb (wq (zb rfl) rfl) qc) rfl rfl (xa5 l.body.length (by omega))) rfl rfl rfl (by simp; omega)) (zb rfl) rfl rfl rfl (by simp; omega)) rfl ?_
    rw [← hR]
    rfl
  have hlen := (zbl h).1
  subst hP
  refine ybi (vB (a := .s (.list (jd l.fields))) (zb rfl) (wcJ (v := 12) (n := sumOf l.fields) rfl (fun k => ⟨_, rfl, jl (jb (zb rfl) qc) rfl rfl (ja5 _ (wby h)), zb rfl⟩)) rfl rfl rfl (by rw [f4]; omega))
section
variable {ρ ρ1 : jc} {d e : D} {g : FG} {body : FS} {ds : List D} {o : Option Out}
theorem qbk (h1 : g d ρ = some ρ1) (h2 : body ρ1 = some (.ret e)) : forL g body (d :: ds) ρ = some (.ret e) := by
  unfold forL
  rw [h1]
  dsimp only
  rw [h2]
end
def lnD : Option (Nat × Nat) → D
  | some (n, s) => .tuple [.int (n : Nat), .int (s : Nat)]
  | none => .none
noncomputable def kS : FS := qg (tV (e2 jz (e2 xb (eV 1) (eV 4)) (eG xg (qa (eV 0) (ya))))) (yb (yc 3 (e2 xb (eV 3) (e2 zV (e2 jx (e2 yg (eV 0) (e2 xb (eV 1) (eV 4))) (eC (.int 127))) (e2 jq (eC (.int 7)) (eV 4))))) (qg (tV (e2 jz (e2 yg (eV 0) (e2 xb (eV 1) (eV 4))) (eC (.int 128)))) (yb (qg (zB (tV (e2 vO (eV 3) (eV 2))) (waw (tV (e2 wz (eV 4) (eC (.int 0)))) (tV (e2 qu (e2 yg (eV 0) (e2 xb (eV 1) (eV 4))) (eC (.int 0)))))) (ji (eC .none)) (qh)) (ji (yF (qa (eV 3) (qa (e2 xb (e2 xb (eV 1) (eV 4)) (eC (.int 1))) (ya)))))) (qh))) (qh)
def lnR (r : List Nat) (a b n : Nat) (s4 : DL.Slot) : jc := [.dat (.list (jd r)), .dat (.int (a : Nat)), .dat (.int (b : Nat)), .dat (.int (n : Nat)), s4]
theorem vbb (r : List Nat) (a b n i : Nat) (h : a + i < r.length) : e2 yg (eV 0) (e2 xb (eV 1) (eV 4)) (lnR r a b n (.dat (.int (i : Nat)))) = some (.ok (.s (.int (vf r a i : Nat)))) := wM (zb rfl) (wm (zb rfl) (zb rfl)) h
theorem jbP (r : List Nat) (a b i : Nat) (h : a + i < r.length) (hi : i < 6) : yc 3 (e2 xb (eV 3) (e2 zV (e2 jx (e2 yg (eV 0) (e2 xb (eV 1) (eV 4))) (eC (.int 127))) (e2 jq (eC (.int 7)) (eV 4)))) (lnR r a b (SN.val (vf r a) i) (.dat (.int (i : Nat)))) = some (.nx (lnR r a b (SN.val (vf r a) (i + 1)) (.dat (.int (i : Nat))))) := by
  refine yf (wm (zb rfl) (wbj (kbK (vbb r a b _ i h) rfl) (xao (i := 7) rfl (zb rfl) (.inl (by decide))) (by omega) (by omega))) rfl ?_
  have e2 : SN.val (vf r a) (i + 1) = SN.val (vf r a) i + vf r a i % 128 * 2 ^ (7 * i) := by
    rw [SN.val, Nat.pow_mul]
  rw [e2]
  rfl
theorem xcf (r : List Nat) (a b i n : Nat) (s4 : DL.Slot) (h : a + i < r.length) (hs : s4 = .dat (.int (i : Nat))) : tV (e2 jz (e2 xb (eV 1) (eV 4)) (eG xg (qa (eV 0) (ya)))) (lnR r a b n s4) = some (.ok true) := by
  subst hs
  exact qq (wm (zb rfl) (zb rfl)) (wq (zb rfl) rfl) (by omega)
theorem qc6 (r : List Nat) (a b i : Nat) (h : a + i < r.length) (hi : i < 6) (hb : 128 ≤ vf r a i) : kS (lnR r a b (SN.val (vf r a) i) (.dat (.int (i : Nat)))) = some (.nx (lnR r a b (SN.val (vf r a) (i + 1)) (.dat (.int (i : Nat))))) := by
  unfold kS
  exact wg (xcf r a b i _ _ h rfl) (vc (jbP r a b i h hi) (kg (xv (vbb r a b _ i h) rfl (by omega)) rfl))
theorem zcY (r : List Nat) (a b i n : Nat) (h : r.length ≤ a + i) : kS (lnR r a b n (.dat (.int (i : Nat)))) = some (.nx (lnR r a b n (.dat (.int (i : Nat))))) := by
  unfold kS
  exact kg (xv (wm (zb rfl) (zb rfl)) (wq (zb rfl) rfl) (by omega)) rfl
theorem wbr (r : List Nat) (a b i : Nat) (d : D) (ρ : jc) (h : a + i < r.length) (hb : 128 ≤ vf r a i) (hd : (yh 0 6)[i]? = some d) (hI : ∃ s4, ρ = lnR r a b (SN.val (vf r a) i) s4) : ∃ ρ1 ρ2, gN 4 d ρ = some ρ1 ∧ kS ρ1 = some (.nx ρ2) ∧ ∃ s4, ρ2 = lnR r a b (SN.val (vf r a) (i + 1)) s4 := by
  obtain ⟨s4, rfl⟩ := hI
  obtain ⟨hi, rfl⟩ := jM hd
  exact ⟨_, _, rfl, qc6 r a b i h hi hb, _, rfl⟩
theorem kai (r : List Nat) (a top : Nat) (ha : a ≤ r.length) (hl : r.length ≤ 100000) : vx [.list (jd r), .int (a : Nat), .int ((top + 1 : Nat) : Int)] = some (.ret (lnD (LF.rd r a top))) := by
  have run : ∀ {o : Out}, (forL (gN 4) kS (yh 0 6) (lnR r a (top + 1) 0 .un) = some o) → ∀ {oo : Option Out}, (∀ ρ, o = .nx ρ → ji (eC .none) ρ = oo) → (∀ d, o = .ret d → some (.ret d) = oo) → ((∃ ρ, o = .nx ρ) ∨ ∃ d, o = .ret d) → wab [.dat (.list (jd r)), .dat (.int (a : Nat)), .dat (.int ((top + 1 : Nat) : Int)), .un, .un] = oo := by
    intro o h oo h1 h2 h3
    unfold wab
    refine vc (ρ1 := lnR r a (top + 1) 0 .un) (yf (v := .s (.int 0)) rfl rfl rfl) ?_
    rcases h3 with ⟨ρ, rfl⟩ | ⟨d, rfl⟩
    · exact vc (wB (zE (j := 6) rfl (by decide) (by decide)) h) (h1 _ rfl)
    · rw [← h2 _ rfl]
      exact jS (wB (zE (j := 6) rfl (by decide) (by decide)) h)
  unfold vx
  refine zw ?_
  rcases SN.zbP (vf r a) (r.length - a) with ⟨p, hp, hr, he⟩ | ⟨hr, hb⟩ | ⟨hr, hb⟩
  · have hs := he.small
    have stop : ∀ {d : D}, kS (lnR r a (top + 1) (SN.val (vf r a) p) (.dat (.int (p : Nat)))) = some (.ret d) → forL (gN 4) kS (yh 0 6) (lnR r a (top + 1) 0 .un) = some (.ret d) := by
      intro d h
      refine qa5 (m := p) (fun i ρ => ∃ s4, ρ = lnR r a (top + 1) (SN.val (vf r a) i) s4) (by rw [wK]; exact hp) ⟨_, rfl⟩ (fun i d ρ hi hd hI => wbr r a _ i d ρ (by omega) (he.big i hi) hd hI) ?_ (.inl ⟨_, rfl⟩)
      rintro d' ρ hd ⟨s4, rfl⟩
      obtain ⟨_, rfl⟩ := jM hd
      exact ⟨_, rfl, h⟩
    by_cases hg : SN.val (vf r a) (p + 1) ≤ top ∧ ¬ (0 < p ∧ vf r a p = 0)
    · rw [LF.jbr ⟨hp, by omega, he, hg.1, hg.2⟩]
      refine run (o := .ret (lnD (some (SN.val (vf r a) (p + 1), a + p + 1)))) (stop ?_) (fun _ h => nomatch h) (fun _ h => by cases h; rfl) (.inr ⟨_, rfl⟩)
      unfold kS
      refine wg (xcf r a _ p _ _ (by omega) rfl) (vc (jbP r a _ p (by omega) hp) (wg (qq (vbb r a _ _ p (by omega)) rfl (by omega)) (vc (kg (vu (jE (zb rfl) (zb rfl) (by omega)) ?_) rfl) (wu (vN (jb (zb rfl) (jb (wm (j := 1) (wm (zb rfl) (zb rfl)) rfl) qc)) rfl (by simp))))))
      by_cases hp0 : 0 < p
      · exact xai (zy (zb rfl) rfl (by omega)) (vp (vbb r a _ _ p (by omega)) rfl (fun e => hg.2 ⟨hp0, by omega⟩))
      · exact qaR (vA (zb rfl) rfl (by omega))
    · rw [LF.j0 fun q ⟨h1, h2, h3, h4, h5⟩ => by
        have := SN.vap h3 he
        subst this
        exact hg ⟨h4, h5⟩]
      refine run (o := .ret .none) (stop ?_) (fun _ h => nomatch h) (fun _ h => by cases h; rfl) (.inr ⟨_, rfl⟩)
      unfold kS
      refine wg (xcf r a _ p _ _ (by omega) rfl) (vc (jbP r a _ p (by omega) hp) (wg (qq (vbb r a _ _ p (by omega)) rfl (by omega)) (jS (wg ?_ (wu rfl)))))
      by_cases hv : top + 1 ≤ SN.val (vf r a) (p + 1)
      · exact xS (yZ (zb rfl) (zb rfl) (by omega))
      · have hz : 0 < p ∧ vf r a p = 0 := Classical.byContradiction fun e => hg ⟨by omega, e⟩
        exact vu (jE (zb rfl) (zb rfl) (by omega)) (xai (zy (zb rfl) rfl (by omega)) (yv (vbb r a _ _ p (by omega)) rfl (by omega)))
  · rw [LF.j0 fun q ⟨h1, h2, h3, h4, h5⟩ => by
      have := hb q (by omega)
      have := h3.small
      omega]
    obtain ⟨ρ', h1, s4, rfl⟩ := wx (g := gN 4) (body := kS) (ds := yh 0 6) (ρ := lnR r a (top + 1) 0 .un) (fun i ρ => ∃ s4, ρ = lnR r a (top + 1) (SN.val (vf r a) (min i (r.length - a))) s4) ⟨.un, by rw [Nat.zero_min]; rfl⟩ (by
      intro i d ρ hd hI
      by_cases hi : i < r.length - a
      · rw [Nat.min_eq_left (by omega)] at hI
        rw [Nat.min_eq_left (by omega)]
        exact wbr r a _ i d ρ (by omega) (hb i hi) hd hI
      · obtain ⟨s4, rfl⟩ := hI
        obtain ⟨_, rfl⟩ := jM hd
        rw [Nat.min_eq_right (by omega), Nat.min_eq_right (by omega)]
        exact ⟨_, _, rfl, zcY r a _ i _ (by omega), _, rfl⟩)
    exact run h1 (fun _ h => by cases h; rfl) (fun _ h => nomatch h) (.inl ⟨_, rfl⟩)
  · rw [LF.j0 fun q ⟨h1, h2, h3, h4, h5⟩ => by
      have := hb q h1
      have := h3.small
      omega]
    obtain ⟨ρ', h1, s4, rfl⟩ := wx (g := gN 4) (body := kS) (ds := yh 0 6) (ρ := lnR r a (top + 1) 0 .un) (fun i ρ => ∃ s4, ρ = lnR r a (top + 1) (SN.val (vf r a) i) s4) ⟨.un, rfl⟩ (fun i d ρ hd hI => wbr r a _ i d ρ (by have := (jM hd).1; omega) (hb i (jM hd).1) hd hI)
    exact run h1 (fun _ h => by cases h; rfl) (fun _ h => nomatch h) (.inl ⟨_, rfl⟩)
theorem kcD (a b c d : Nat) : a * 2 ^ (8 * 0) + (b * 2 ^ (8 * 1) + (c * 2 ^ (8 * 2) + (d * 2 ^ (8 * 3) + 0))) = LF.kh [a, b, c, d] := by
  simp [LF.kh]
  omega
theorem vcJ {r : List Nat} {a : Nat} (h : a + 4 ≤ r.length) : (r.drop a).take 4 = [r.getD a 0, r.getD (a + 1) 0, r.getD (a + 2) 0, r.getD (a + 3) 0] := by
  refine List.ext_getElem (by simp; omega) fun i h1 h2 => ?_
  have hi : i < 4 := by simpa using h2
  have g : ∀ j, (hj : j < 4) → r.getD (a + j) 0 = r[a + j]'(by omega) := fun j hj => by
    rw [List.getD_eq_getElem?_getD, List.getElem?_eq_getElem (by omega)]
    rfl
  rw [List.getElem_take, List.getElem_drop]
  rcases (show i = 0 ∨ i = 1 ∨ i = 2 ∨ i = 3 by omega) with rfl | rfl | rfl | rfl
  · exact (g 0 (by decide)).symm
  · exact (g 1 (by decide)).symm
  · exact (g 2 (by decide)).symm
  · exact (g 3 (by decide)).symm
theorem kc4 {ρ : jc} {v : Nat} {r : List Nat} {a : Nat} {fi fk : FE} (hr : ∀ x ∈ r, x < 256) (h : a + 4 ≤ r.length) (h0 : noOwn ρ [v] = true) (hf : ∀ k : Nat, k < 4 → ∃ ρ1, wF v (ym ρ [v]) (.int (k : Int)) = some ρ1 ∧ ρ1[0]? = some (.dat (.list (jd r))) ∧ fi ρ1 = some (.ok (.s (.int ((a + k : Nat) : Int)))) ∧ fk ρ1 = some (.ok (.s (.int (k : Int))))) :
    eG qbf (qa (zz [v] (wF v) (wi (qa (eC (.int 4)) (ya))) (fun _ => some (.ok true)) (e2 zV (e2 yg (eV 0) fi) (e2 jq (eC (.int 8)) fk))) (ya)) ρ = some (.ok (.s (.int (LF.kh ((r.drop a).take 4) : Nat)))) := by
  have hb : ∀ i, i < r.length → r.getD i 0 < 256 := fun i hi => by
    rw [List.getD_eq_getElem?_getD, List.getElem?_eq_getElem hi]
    exact hr _ (List.getElem_mem hi)
  have q := vao (vs := [v]) (st := wF v) (a := qa (eC (.int 4)) (ya)) (tt := fun _ => some (.ok true)) (fe := e2 zV (e2 yg (eV 0) fi) (e2 jq (eC (.int 8)) fk)) (ρ := ρ) (n := 4) (F := fun k => .int ((r.getD (a + k) 0 * 2 ^ (8 * k) : Nat) : Int)) h0 (zE (j := 4) rfl (by decide) (by decide)) (by decide) (fun k hk => by
    obtain ⟨ρ1, h1, h2, h3, h4⟩ := hf k hk
    have := hb (a + k) (by omega)
    exact ⟨ρ1, _, h1, rfl, wbj (wM (zb h2) h3 (by omega)) (xao (i := 8) rfl h4 (.inl (by decide))) (by omega) (by omega), rfl⟩)
  refine wa4 (jb q qc) ?_
  have e : (List.range 4).map (fun k => PyData.int ((r.getD (a + k) 0 * 2 ^ (8 * k) : Nat) : Int)) = [(r.getD (a + 0) 0 * 2 ^ (8 * 0) : Nat), (r.getD (a + 1) 0 * 2 ^ (8 * 1) : Nat), (r.getD (a + 2) 0 * 2 ^ (8 * 2) : Nat), (r.getD (a + 3) 0 * 2 ^ (8 * 3) : Nat)].map fun n : Nat => PyData.int (n : Int) := rfl
  show (vad ((List.range 4).map (fun k => PyData.int ((r.getD (a + k) 0 * 2 ^ (8 * k) : Nat) : Int)))).map (fun ns => Val.s (.int ns.sum)) = _
  rw [e]
  have e3 : vad ([(r.getD (a + 0) 0 * 2 ^ (8 * 0) : Nat), (r.getD (a + 1) 0 * 2 ^ (8 * 1) : Nat), (r.getD (a + 2) 0 * 2 ^ (8 * 2) : Nat), (r.getD (a + 3) 0 * 2 ^ (8 * 3) : Nat)].map fun n : Nat => PyData.int (n : Int)) = some [((r.getD (a + 0) 0 * 2 ^ (8 * 0) : Nat) : Int), ((r.getD (a + 1) 0 * 2 ^ (8 * 1) : Nat) : Int), ((r.getD (a + 2) 0 * 2 ^ (8 * 2) : Nat) : Int), ((r.getD (a + 3) 0 * 2 ^ (8 * 3) : Nat) : Int)] := rfl
  rw [e3, vcJ h, ← kcD]
  rfl
theorem vct {r : List Nat} {s x : Nat} (hr : ∀ y ∈ r, y < 256) (hx : x < 2 ^ 32) (hs : s ≤ r.length) : r.drop s = LF.four x ↔ r.length = s + 4 ∧ LF.kh ((r.drop s).take 4) = x := by
  constructor
  · intro h
    have hl := congrArg List.length h
    rw [List.length_drop] at hl
    have h4 : (LF.four x).length = 4 := rfl
    refine ⟨by omega, ?_⟩
    rw [h]
    exact LF.xcu x hx
  · rintro ⟨hl, hn⟩
    have hd : (r.drop s).length = 4 := by rw [List.length_drop]; omega
    have e : r.drop s = (r.drop s).take 4 := (List.take_of_length_le (by omega)).symm
    rw [vcJ (by omega)] at e
    rw [e] at hn ⊢
    rw [← hn]
    have hb : ∀ i, i < r.length → r.getD i 0 < 256 := fun i hi => by
      rw [List.getD_eq_getElem?_getD, List.getElem?_eq_getElem hi]
      exact hr _ (List.getElem_mem hi)
    show _ = LF.four (LF.kh ([r.getD s 0, r.getD (s + 1) 0, r.getD (s + 2) 0, r.getD (s + 3) 0].take 4))
    exact (LF.ka5 (hb _ (by omega)) (hb _ (by omega)) (hb _ (by omega)) (hb _ (by omega))).symm
end FL
namespace ST
def dec : List (List Nat) → List Nat
  | [] => []
  | b :: bs => b ++ (if b.length < 254 then [0] else []) ++ dec bs
def enc : List (List Nat) → List Nat
  | [] => []
  | b :: bs => (b.length + 1) :: b ++ enc bs
theorem yab (a b : List (List Nat)) : dec (a ++ b) = dec a ++ dec b := by
  induction a with
  | nil => rfl
  | cons x a ih => simp [dec, ih]
theorem kT (a b : List (List Nat)) : enc (a ++ b) = enc a ++ enc b := by
  induction a with
  | nil => rfl
  | cons x a ih => simp [enc, ih]
def full (bs : List (List Nat)) : Nat := bs.countP fun b => b.length == 254
def Ok (b : List Nat) : Prop := b.length ≤ 254 ∧ ∀ x ∈ b, 0 < x ∧ x < 256
def yN (s : List Nat × List Nat) (x : Nat) : List Nat × List Nat :=
  if x = 0 then (s.1 ++ (s.2.length + 1) :: s.2, []) else if s.2.length + 1 = 254 then (s.1 ++ 255 :: (s.2 ++ [x]), []) else (s.1, s.2 ++ [x])
def run (row : List Nat) : List Nat × List Nat := row.foldl yN ([], [])
def yr (row : List Nat) : List Nat := (run row).1 ++ ((run row).2.length + 1) :: (run row).2
structure Inv (row : List Nat) (s : List Nat × List Nat) : Prop where
  bs : ∃ bs, s.1 = enc bs ∧ row = dec bs ++ s.2 ∧ ∀ b ∈ bs, Ok b
  len : s.2.length < 254
  ok : ∀ x ∈ s.2, 0 < x ∧ x < 256
  small : s.1.length + s.2.length ≤ 2 * row.length
theorem ycS : Inv [] ([], []) := ⟨⟨[], rfl, rfl, (fun _ h => nomatch h)⟩, by decide, (fun _ h => nomatch h), Nat.le_refl _⟩
theorem xcS {row : List Nat} {s : List Nat × List Nat} {x : Nat} (I : Inv row s) (hx : x < 256) : Inv (row ++ [x]) (yN s x) := by
  obtain ⟨⟨bs, h1, h2, h3⟩, h4, h5, h6⟩ := I
  unfold yN
  by_cases hz : x = 0
  · rw [if_pos hz]
    refine ⟨⟨bs ++ [s.2], ?_, ?_, ?_⟩, by simp, (fun _ h => nomatch h), ?_⟩
    · rw [kT, ← h1]
      simp [enc]
    · rw [yab, h2, hz]
      simp [dec, h4]
    · intro b hb
      rcases List.mem_append.mp hb with hb | hb
      · exact h3 b hb
      · rw [List.mem_singleton.mp hb]
        exact ⟨by omega, h5⟩
    · simp
      omega
  · rw [if_neg hz]
    have hok : ∀ y ∈ s.2 ++ [x], 0 < y ∧ y < 256 := by
      intro y hy
      rcases List.mem_append.mp hy with hy | hy
      · exact h5 y hy
      · rw [List.mem_singleton.mp hy]
        omega
    by_cases hf : s.2.length + 1 = 254
    · rw [if_pos hf]
      refine ⟨⟨bs ++ [s.2 ++ [x]], ?_, ?_, ?_⟩, by simp, (fun _ h => nomatch h), ?_⟩
      · rw [kT, ← h1]
        simp [enc]
        omega
      · rw [yab, h2]
        simp [dec, hf]
      · intro b hb
        rcases List.mem_append.mp hb with hb | hb
        · exact h3 b hb
        · rw [List.mem_singleton.mp hb]
          exact ⟨by simp; omega, hok⟩
      · simp
        omega
    · rw [if_neg hf]
      refine ⟨⟨bs, h1, by rw [h2, List.append_assoc], h3⟩, by simp; omega, hok, ?_⟩
      simp
      omega
theorem ka9 : ∀ (row : List Nat), (∀ x ∈ row, x < 256) → Inv row (run row) := by
  intro row
  have go : ∀ (r pre : List Nat) (s : List Nat × List Nat), (∀ x ∈ r, x < 256) → Inv pre s → Inv (pre ++ r) (r.foldl yN s) := by
    intro r
    induction r with
    | nil => intro pre s _ I; rw [List.append_nil]; exact I
    | cons x r ih =>
      intro pre s h I
      have q := ih (pre ++ [x]) (yN s x) (fun y hy => h y (List.mem_cons_of_mem _ hy)) (xcS I (h x List.mem_cons_self))
      rw [List.append_assoc] at q
      exact q
  intro h
  exact go row [] ([], []) h ycS
theorem blocks (row : List Nat) (h : ∀ x ∈ row, x < 256) : ∃ bs l, yr row = enc (bs ++ [l]) ∧ row ++ [0] = dec (bs ++ [l]) ∧ (∀ b ∈ bs ++ [l], Ok b) ∧ l.length < 254 := by
  obtain ⟨⟨bs, h1, h2, h3⟩, h4, h5, h6⟩ := ka9 row h
  refine ⟨bs, (run row).2, ?_, ?_, ?_, h4⟩
  · unfold yr
    rw [kT, ← h1]
    simp [enc]
  · rw [yab]
    conv => lhs; rw [h2]
    simp [dec, h4]
  · intro b hb
    rcases List.mem_append.mp hb with hb | hb
    · exact h3 b hb
    · rw [List.mem_singleton.mp hb]
      exact ⟨by omega, h5⟩
theorem xbn {bs : List (List Nat)} (h : ∀ b ∈ bs, Ok b) : ∀ x ∈ enc bs, 0 < x ∧ x < 256 := by
  induction bs with
  | nil => exact fun _ h => nomatch h
  | cons b bs ih =>
    intro x hx
    have hb := h b List.mem_cons_self
    simp only [enc, List.cons_append, List.mem_cons, List.mem_append] at hx
    rcases hx with rfl | hx | hx
    · have := hb.1
      omega
    · exact hb.2 x hx
    · exact ih (fun c hc => h c (List.mem_cons_of_mem _ hc)) x hx
theorem zZ (bs : List (List Nat)) (h : ∀ b ∈ bs, Ok b) : (enc bs).length = (dec bs).length + full bs := by
  induction bs with
  | nil => rfl
  | cons b bs ih =>
    have hb := (h b List.mem_cons_self).1
    have q := ih fun c hc => h c (List.mem_cons_of_mem _ hc)
    by_cases hf : b.length = 254
    · have e : full (b :: bs) = full bs + 1 := by simp [full, hf]
      simp [enc, dec, e, hf, q]
      omega
    · have e : full (b :: bs) = full bs := by simp [full, hf]
      have hlt : b.length < 254 := by omega
      simp [enc, dec, e, hlt, q]
      omega
theorem xaP (bs : List (List Nat)) : bs.length ≤ (enc bs).length := by
  induction bs with
  | nil => exact Nat.le_refl _
  | cons b bs ih => simp [enc]; omega
end ST
namespace FN
open PySem PySem.Spec PyProof.Rows L2 DL
noncomputable section
end
end FN
namespace FL
open PySem PySem.Spec PyProof.Rows L2 DL FN
open ST (yN yr enc dec full)
theorem emit {E : FE} {s0 s3 : DL.Slot} {P B : List Nat} {n : Nat} (q : E [s0, .own (jd P), .own (jd B), s3] = some (.ok (.s (.int (n : Int))))) (hl : P.length + B.length + 1 ≤ 10000000) :
    yaq 1 (jg (qa E (jaw (eV 2) (ya)))) [s0, .own (jd P), .own (jd B), s3] = some (.nx [s0, .own (jd (P ++ n :: B)), .own (jd B), s3]) := by
  have h1 : jg (qa E (jaw (eV 2) (ya))) [s0, .own (jd P), .own (jd B), s3] = some (.ok (.f (jd (n :: B)))) := by
    refine vn (vs := .s (.int (n : Int)) :: ((jd B).map Val.s ++ [])) (jb q (kc3 (v := .b (jd B)) rfl rfl qc)) ?_ ?_
    · rw [List.append_nil]
      exact wca (jd (n :: B))
    · rw [List.append_nil, List.length_cons, List.length_map, xi]
      omega
  exact wce (es := jd P) rfl h1 rfl (by rw [xi, xi, List.length_cons]; omega) (by rw [yW]; rfl)
noncomputable def jbO : FS := qg (tV (e2 qu (eV 3) (eC (.int 0)))) (yb (yaq 1 (jg (qa (e2 xb (eG xg (qa (eV 2) (ya))) (eC (.int 1))) (jaw (eV 2) (ya))))) (zS 2 (jg (ya)))) (yb (xF 2 (eV 3)) (qg (tV (e2 qu (eG xg (qa (eV 2) (ya))) (e2 gSub (eC (.int 255)) (eC (.int 1))))) (yb (yaq 1 (jg (qa (eC (.int 255)) (jaw (eV 2) (ya))))) (zS 2 (jg (ya)))) (qh)))
theorem zcD (s0 s1 s3 : DL.Slot) (B : List Nat) : eG xg (qa (eV 2) (ya)) [s0, s1, .own (jd B), s3] = some (.ok (.s (.int (B.length : Nat)))) := by
  have q := kaw (E := eV 2) (ρ := [s0, s1, .own (jd B), s3]) (v := .b (jd B)) rfl rfl
  rw [xi] at q
  exact q
theorem zcJ (s0 s1 s3 : DL.Slot) (B : List Nat) : e2 xb (eG xg (qa (eV 2) (ya))) (eC (.int 1)) [s0, s1, .own (jd B), s3] = some (.ok (.s (.int ((B.length + 1 : Nat) : Int)))) := by
  have q := vk (j := 1) (fb := eC (.int 1)) (zcD s0 s1 s3 B) rfl
  exact q
theorem jcX (s0 : DL.Slot) (s : List Nat × List Nat) (x : Nat) (hl : s.1.length + s.2.length ≤ 1000000) : jbO [s0, .own (jd s.1), .own (jd s.2), .dat (.int x)] = some (.nx [s0, .own (jd (yN s x).1), .own (jd (yN s x).2), .dat (.int x)]) := by
  unfold yN jbO
  by_cases hz : x = 0
  · rw [if_pos hz]
    refine wg (yv (zb rfl) rfl (by omega)) ?_
    refine vc (emit (zcJ _ _ _ _) (by omega)) ?_
    exact xad (vn qc rfl (by decide)) rfl
  · rw [if_neg hz]
    refine kg (vp (zb rfl) rfl (by omega)) ?_
    refine vc (ρ1 := [s0, .own (jd s.1), .own (jd (s.2 ++ [x])), .dat (.int x)]) (jbG (es := jd s.2) rfl (zb rfl) rfl (by rw [xi]; omega) (by rw [yW]; rfl)) ?_
    by_cases hf : s.2.length + 1 = 254
    · rw [if_pos hf]
      refine wg (yv (zcD _ _ _ _) (xW rfl rfl) (by rw [List.length_append, List.length_singleton]; omega)) ?_
      refine vc (emit (n := 255) rfl (by rw [List.length_append, List.length_singleton]; omega)) ?_
      exact xad (vn qc rfl (by decide)) rfl
    · rw [if_neg hf]
      exact kg (vp (zcD _ _ _ _) (xW rfl rfl) (by rw [List.length_append, List.length_singleton]; omega)) rfl
theorem wbO {row : List Nat} {i : Nat} (hi : i < row.length) : ST.run (row.take (i + 1)) = yN (ST.run (row.take i)) row[i] := by
  rw [List.take_succ_eq_append_getElem hi]
  unfold ST.run
  rw [List.foldl_append]
  rfl
theorem jcD (row : List Nat) (hr : ∀ x ∈ row, x < 256) (hl : row.length ≤ 10000) : xbq [.list (jd row)] = some (.retF (jd (yr row))) := by
  have inv := fun i => ST.ka9 (row.take i) fun x hx => hr x (List.mem_of_mem_take hx)
  have key := wx (g := gN 3) (ds := jd row) (ρ := [.dat (.list (jd row)), .own (jd []), .own (jd []), .un]) (body := jbO)
    (fun i ρ => ∃ s3, ρ = [.dat (.list (jd row)), .own (jd (ST.run (row.take i)).1), .own (jd (ST.run (row.take i)).2), s3])
    ⟨_, rfl⟩ (by
      rintro i d ρ hd ⟨s3, rfl⟩
      obtain ⟨hi, rfl⟩ := vce hd
      have hs := (inv i).small
      have ht : (row.take i).length ≤ 10000 := by rw [List.length_take]; omega
      refine ⟨_, _, rfl, jcX _ _ _ (by omega), .dat (.int (row[i] : Nat)), ?_⟩
      rw [wbO hi])
  obtain ⟨ρ', h1, s3, rfl⟩ := key
  rw [xi, List.take_length] at h1
  have hs := (ST.ka9 row hr).small
  unfold xbq zcb
  refine yai ?_
  refine vc (ρ1 := [.dat (.list (jd row)), .own (jd []), .un, .un]) (xad (vn qc rfl (by decide)) rfl) ?_
  refine vc (ρ1 := [.dat (.list (jd row)), .own (jd []), .own (jd []), .un]) (xad (vn qc rfl (by decide)) rfl) ?_
  refine vc (wB (it := yM (eV 0)) rfl h1) ?_
  refine vc (emit (zcJ _ _ _ _) (by omega)) ?_
  exact qbK rfl
noncomputable def vbO : FS := yb (qg (tV (e2 wz (eV 3) (eC (.int 0)))) (yc 2 (e2 xb (eV 2) (jg (qa (eV 3) (ya))))) (qh)) (qg (zB (tV (e2 qu (eV 3) (eC (.int 0)))) (tV (e2 qu (eG xg (qa (eV 2) (ya))) (eC (.int 254))))) (yb (yc 1 (e2 xb (e2 xb (eV 1) (jg (qa (e2 xb (eG xg (qa (eV 2) (ya))) (eC (.int 1))) (ya)))) (eV 2))) (yc 2 (jg (ya)))) (qh))
theorem vcf (s0 s1 s3 : DL.Slot) (B : List Nat) : eG xg (qa (eV 2) (ya)) [s0, s1, .dat (.list (jd B)), s3] = some (.ok (.s (.int (B.length : Nat)))) := by
  have q := kaw (E := eV 2) (ρ := [s0, s1, .dat (.list (jd B)), s3]) (v := .s (.list (jd B))) rfl rfl
  rw [xi] at q
  exact q
theorem xc5 (s0 s1 s3 : DL.Slot) (B : List Nat) : e2 xb (eG xg (qa (eV 2) (ya))) (eC (.int 1)) [s0, s1, .dat (.list (jd B)), s3] = some (.ok (.s (.int ((B.length + 1 : Nat) : Int)))) := by
  have q := vk (j := 1) (fb := eC (.int 1)) (vcf s0 s1 s3 B) rfl
  exact q
theorem jcb (s0 s3 : DL.Slot) (P B : List Nat) (hl : P.length + B.length + 1 ≤ 10000000) : yb (yc 1 (e2 xb (e2 xb (eV 1) (jg (qa (e2 xb (eG xg (qa (eV 2) (ya))) (eC (.int 1))) (ya)))) (eV 2))) (yc 2 (jg (ya))) [s0, .dat (.list (jd P)), .dat (.list (jd B)), s3] = some (.nx [s0, .dat (.list (jd (P ++ (B.length + 1) :: B))), .dat (.list (jd [])), s3]) := by
  have h1 : e2 xb (eV 1) (jg (qa (e2 xb (eG xg (qa (eV 2) (ya))) (eC (.int 1))) (ya))) [s0, .dat (.list (jd P)), .dat (.list (jd B)), s3] = some (.ok (.f (jd P ++ jd [B.length + 1]))) :=
    xaT (a := .s (.list (jd P))) (b := .f (jd [B.length + 1])) rfl (vn (jb (xc5 _ _ _ _) qc) rfl (by simp)) rfl rfl rfl (by rw [xi, xi, List.length_singleton]; omega)
  have h2 : e2 xb (e2 xb (eV 1) (jg (qa (e2 xb (eG xg (qa (eV 2) (ya))) (eC (.int 1))) (ya)))) (eV 2) [s0, .dat (.list (jd P)), .dat (.list (jd B)), s3] = some (.ok (.f ((jd P ++ jd [B.length + 1]) ++ jd B))) :=
    xaT (b := .s (.list (jd B))) h1 rfl rfl rfl rfl (by rw [List.length_append, xi, xi, xi, List.length_singleton]; omega)
  refine vc (ρ1 := [s0, .dat (.list (jd (P ++ (B.length + 1) :: B))), .dat (.list (jd B)), s3]) (yf h2 rfl ?_) ?_
  · rw [← yW, ← yW, List.append_assoc]
    rfl
  · exact yf (vn qc rfl (by decide)) rfl rfl
theorem wcX (s0 : DL.Slot) (s : List Nat × List Nat) (x : Nat) (hl : s.1.length + s.2.length ≤ 1000000) (h4 : s.2.length < 254) : vbO [s0, .dat (.list (jd s.1)), .dat (.list (jd s.2)), .dat (.int x)] = some (.nx [s0, .dat (.list (jd (yN s x).1)), .dat (.list (jd (yN s x).2)), .dat (.int x)]) := by
  unfold yN vbO
  by_cases hz : x = 0
  · rw [if_pos hz]
    refine vc (ρ1 := [s0, .dat (.list (jd s.1)), .dat (.list (jd s.2)), .dat (.int x)]) (kg (vA (zb rfl) rfl (by omega)) rfl) ?_
    refine wg (xS (yv (zb rfl) rfl (by omega))) ?_
    exact jcb _ _ _ _ (by omega)
  · rw [if_neg hz]
    have h1 : e2 xb (eV 2) (jg (qa (eV 3) (ya))) [s0, .dat (.list (jd s.1)), .dat (.list (jd s.2)), .dat (.int x)] = some (.ok (.f (jd s.2 ++ jd [x]))) :=
      xaT (a := .s (.list (jd s.2))) (b := .f (jd [x])) rfl (vn (jb (zb rfl) qc) rfl (by simp)) rfl rfl rfl (by rw [xi, xi, List.length_singleton]; omega)
    refine vc (ρ1 := [s0, .dat (.list (jd s.1)), .dat (.list (jd (s.2 ++ [x]))), .dat (.int x)]) (wg (zy (zb rfl) rfl (by omega)) (yf h1 rfl (by rw [yW]; rfl))) ?_
    have hL : (s.2 ++ [x]).length = s.2.length + 1 := by simp
    by_cases hf : s.2.length + 1 = 254
    · rw [if_pos hf]
      refine wg (vu (vp (zb rfl) rfl (by omega)) (yv (vcf _ _ _ _) rfl (by omega))) ?_
      have q := jcb s0 (.dat (.int x)) s.1 (s.2 ++ [x]) (by omega)
      have e : (s.2 ++ [x]).length + 1 = 255 := by omega
      rw [e] at q
      exact q
    · rw [if_neg hf]
      exact kg (vu (vp (zb rfl) rfl (by omega)) (vp (vcf _ _ _ _) rfl (by omega))) rfl
theorem kbq (row : List Nat) (hr : ∀ x ∈ row, x < 256) (hl : row.length ≤ 10000) : vy [.list (jd row)] = some (.ret (.list (jd (yr row)))) := by
  have hr0 : ∀ x ∈ row ++ [0], x < 256 := by
    intro x hx
    rcases List.mem_append.mp hx with hx | hx
    · exact hr x hx
    · rw [List.mem_singleton.mp hx]
      decide
  have hl0 : (row ++ [0]).length ≤ 10001 := by rw [List.length_append, List.length_singleton]; omega
  have e : yr row = (ST.run (row ++ [0])).1 := by
    unfold yr ST.run
    rw [List.foldl_append]
    rfl
  generalize hz : row ++ [0] = row0 at hr0 hl0 e
  have inv := fun i => ST.ka9 (row0.take i) fun x hx => hr0 x (List.mem_of_mem_take hx)
  have key := wx (g := gN 3) (ds := jd row0) (ρ := [.dat (.list (jd row)), .dat (.list (jd [])), .dat (.list (jd [])), .un]) (body := vbO)
    (fun i ρ => ∃ s3, ρ = [.dat (.list (jd row)), .dat (.list (jd (ST.run (row0.take i)).1)), .dat (.list (jd (ST.run (row0.take i)).2)), s3])
    ⟨_, rfl⟩ (by
      rintro i d ρ hd ⟨s3, rfl⟩
      obtain ⟨hi, rfl⟩ := vce hd
      have hs := (inv i).small
      have ht : (row0.take i).length ≤ 10001 := by rw [List.length_take]; omega
      refine ⟨_, _, rfl, wcX _ _ _ (by omega) (inv i).len, .dat (.int (row0[i] : Nat)), ?_⟩
      rw [wbO hi])
  obtain ⟨ρ', h1, s3, rfl⟩ := key
  rw [xi, List.take_length] at h1
  rw [e]
  unfold vy z0
  refine zw ?_
  refine vc (ρ1 := [.dat (.list (jd row)), .dat (.list (jd [])), .un, .un]) (yf (vn qc rfl (by decide)) rfl rfl) ?_
  refine vc (ρ1 := [.dat (.list (jd row)), .dat (.list (jd [])), .dat (.list (jd [])), .un]) (yf (vn qc rfl (by decide)) rfl rfl) ?_
  have hcat : e2 xb (eV 0) (jg (qa (eC (.int 0)) (ya))) [.dat (.list (jd row)), .dat (.list (jd [])), .dat (.list (jd [])), .un] = some (.ok (.f (jd row0))) := by
    have q := xaT (fa := eV 0) (fb := jg (qa (eC (.int 0)) (ya))) (ρ := [.dat (.list (jd row)), .dat (.list (jd [])), .dat (.list (jd [])), .un]) (a := .s (.list (jd row))) (b := .f (jd [0])) rfl (vn (jb rfl qc) rfl (by decide)) rfl rfl rfl (by rw [xi, xi, List.length_singleton]; omega)
    rw [← yW, hz] at q
    exact q
  refine vc (wB (xbi hcat) h1) ?_
  exact wu rfl
noncomputable def qbl : FT := tV (e2 jz (eV 2) (eG xg (qa (eV 0) (ya))))
noncomputable def z7 : FS := yb (yc 3 (e2 yg (eV 0) (eV 2))) (yb (qg (tV (e2 wz (e2 xb (eV 2) (eV 3)) (eG xg (qa (eV 0) (ya))))) (kj 4 (eV 2)) (qh)) (yb (yaq 1 (jm (eV 0) (ve (e2 xb (eV 2) (eC (.int 1)))) (ve (e2 xb (eV 2) (eV 3))))) (yb (ya3 2 (fun i j => i + j) (eV 3)) (qg (tV (e2 jz (eV 3) (eC (.int 255)))) (xF 1 (eC (.int 0))) (qg (tV (e2 qu (eV 2) (eG xg (qa (eV 0) (ya))))) (kj 4 (eV 2)) (qh))))))
theorem len0 (r : List Nat) (s1 s2 s3 : DL.Slot) : eG xg (qa (eV 0) (ya)) [.dat (.list (jd r)), s1, s2, s3] = some (.ok (.s (.int (r.length : Nat)))) := by
  have q := kaw (E := eV 0) (ρ := [.dat (.list (jd r)), s1, s2, s3]) (v := .s (.list (jd r))) rfl rfl
  rw [xi] at q
  exact q
theorem wcb (A B C : List Nat) (R : List Nat) (s3 : DL.Slot) (r : List Nat) (er : r = A ++ ((B.length + 1) :: B ++ C)) (hB : B.length ≤ 254) (hC : B.length = 254 → C ≠ []) (hr : r.length ≤ 100000) (hR : R.length ≤ 100000) :
    z7 [.dat (.list (jd r)), .own (jd R), .dat (.int (A.length : Nat)), s3] = some (.nx [.dat (.list (jd r)), .own (jd (R ++ (B ++ (if B.length < 254 then [0] else [])))), .dat (.int ((A.length + (B.length + 1) : Nat) : Int)), .dat (.int ((B.length + 1 : Nat) : Int))]) := by
  have hlen : r.length = A.length + (B.length + 1) + C.length := by
    rw [er]
    simp
    omega
  have hat : atI (jd r) (A.length : Nat) = some (.int ((B.length + 1 : Nat) : Int)) := by
    rw [yao (by omega)]
    congr 3
    subst er
    simp
  have hcut : vV (jd r) (some ((A.length + 1 : Nat) : Int)) (some ((A.length + (B.length + 1) : Nat) : Int)) = jd B := by
    rw [kbf _ _ _ (by rw [xi]; omega) (by omega)]
    unfold jd
    rw [← List.map_drop, ← List.map_take]
    congr 1
    rw [er, List.drop_append, List.drop_of_length_le (by omega)]
    have e1 : A.length + 1 - A.length = 1 := by omega
    have e2 : A.length + (B.length + 1) - (A.length + 1) = B.length := by omega
    rw [e1, e2]
    simp
  have c1 : ((A.length : Nat) : Int) + 1 = ((A.length + 1 : Nat) : Int) := by omega
  have c2 : ((A.length : Nat) : Int) + ((B.length + 1 : Nat) : Int) = ((A.length + (B.length + 1) : Nat) : Int) := by omega
  unfold z7
  refine vc (ρ1 := [.dat (.list (jd r)), .own (jd R), .dat (.int (A.length : Nat)), .dat (.int ((B.length + 1 : Nat) : Int))]) (yf (ka4 (zb rfl) (zb rfl) hat) rfl rfl) ?_
  refine vc (kg (vA (vk (zb rfl) (zb rfl)) (len0 _ _ _ _) (by omega)) rfl) ?_
  refine vc (ρ1 := [.dat (.list (jd r)), .own (jd (R ++ B)), .dat (.int (A.length : Nat)), .dat (.int ((B.length + 1 : Nat) : Int))])
    (wce (v := .f (jd B)) (us := jd B) (es := jd R) rfl (by
      have q := ya4 (E := eV 0) (L := ve (e2 xb (eV 2) (eC (.int 1)))) (R := ve (e2 xb (eV 2) (eV 3))) (ρ := [.dat (.list (jd r)), .own (jd R), .dat (.int (A.length : Nat)), .dat (.int ((B.length + 1 : Nat) : Int))]) (zb rfl) (.inl rfl) (kad (vk (zb rfl) rfl)) (kad (vk (zb rfl) (zb rfl)))
      rw [c1, c2, hcut] at q
      exact q) rfl (by rw [xi, xi]; omega) (by rw [yW]; rfl)) ?_
  refine vc (ρ1 := [.dat (.list (jd r)), .own (jd (R ++ B)), .dat (.int ((A.length + (B.length + 1) : Nat) : Int)), .dat (.int ((B.length + 1 : Nat) : Int))]) (yce (a := (A.length : Nat)) rfl (zb rfl) (by rw [← c2]; rfl)) ?_
  by_cases hf : B.length < 254
  · rw [if_pos hf]
    exact wg (qq (zb rfl) rfl (by omega)) (jbG (es := jd (R ++ B)) (d := .int ((0 : Nat) : Int)) rfl rfl rfl (by rw [xi, List.length_append]; omega) (by rw [← List.append_assoc, yW (R ++ B)]; rfl))
  · rw [if_neg hf, List.append_nil]
    have hC' : 0 < C.length := List.length_pos_iff.mpr (hC (by omega))
    exact kg (xv (zb rfl) rfl (by omega)) (kg (vp (zb rfl) (len0 _ _ _ _) (by omega)) rfl)
theorem vcX (r : List Nat) (hr : r.length ≤ 100000) (hd : r.length ≤ 100000) : ∀ (suf pre : List (List Nat)) (s3 : DL.Slot), r = enc (pre ++ suf) → (∀ b ∈ pre ++ suf, ST.Ok b) → (∀ b, suf.getLast? = some b → b.length < 254) →
    ∃ s3', qw qbl z7 (suf.length + 1) [.dat (.list (jd r)), .own (jd (dec pre)), .dat (.int ((enc pre).length : Nat)), s3] = some (.nx [.dat (.list (jd r)), .own (jd (dec (pre ++ suf))), .dat (.int (r.length : Nat)), s3']) := by
  intro suf
  induction suf with
  | nil =>
    intro pre s3 er _ _
    rw [List.append_nil] at er
    rw [← er, List.append_nil]
    exact ⟨s3, yc3 (xv (zb rfl) (len0 _ _ _ _) (by omega))⟩
  | cons b suf ih =>
    intro pre s3 er hok hlast
    have hb := hok b (List.mem_append_right _ List.mem_cons_self)
    have er' : r = enc pre ++ ((b.length + 1) :: b ++ enc suf) := by
      rw [er, ST.kT]
      rfl
    have hlen : r.length = (enc pre).length + (b.length + 1) + (enc suf).length := by
      rw [er']
      simp
      omega
    have hdl : (dec pre).length ≤ 100000 := by
      have q := ST.zZ pre fun c hc => hok c (List.mem_append_left _ hc)
      omega
    have hC : b.length = 254 → enc suf ≠ [] := by
      intro h e
      cases suf with
      | nil =>
        have := hlast b rfl
        omega
      | cons c suf => simp [enc] at e
    have t := wcb (enc pre) b (enc suf) (dec pre) s3 r er' hb.1 hC hr hdl
    have ed : dec pre ++ (b ++ (if b.length < 254 then [0] else [])) = dec (pre ++ [b]) := by
      rw [ST.yab]
      simp [dec]
    have ee : (enc pre).length + (b.length + 1) = (enc (pre ++ [b])).length := by
      rw [ST.kT]
      simp [enc]
    rw [ed, ee] at t
    have ep : pre ++ [b] ++ suf = pre ++ b :: suf := by simp
    obtain ⟨s3', h⟩ := ih (pre ++ [b]) (.dat (.int ((b.length + 1 : Nat) : Int))) (by rw [ep]; exact er) (by rw [ep]; exact hok) (by
      intro c hc
      apply hlast c
      cases suf with
      | nil => cases hc
      | cons d suf => rw [List.getLast?_cons_cons]; exact hc)
    rw [ep] at h
    exact ⟨s3', xc3 (qq (zb rfl) (len0 _ _ _ _) (by omega)) t h⟩
theorem xbj (bs : List (List Nat)) (l : List Nat) (hok : ∀ b ∈ bs ++ [l], ST.Ok b) (hl : l.length < 254) (hr : (enc (bs ++ [l])).length ≤ 100000) : xp [.list (jd (enc (bs ++ [l])))] = some (.retF (jd (dec (bs ++ [l])).dropLast)) := by
  have hpos := ST.xbn hok
  have hle := ST.xaP (bs ++ [l])
  have hne : dec (bs ++ [l]) ≠ [] := by
    rw [ST.yab]
    simp [dec, hl]
  have hz : (enc (bs ++ [l])).contains 0 = false := by
    rw [List.contains_eq_any_beq, List.any_eq_false]
    intro x hx
    have := hpos x hx
    simp
    omega
  have hlen : 0 < (enc (bs ++ [l])).length := by
    rw [List.length_append, List.length_singleton] at hle
    omega
  generalize hR : enc (bs ++ [l]) = r at hr hpos hle hz hlen
  obtain ⟨s3', h⟩ := vcX r hr hr (bs ++ [l]) [] .un (by rw [List.nil_append, hR]) (by rw [List.nil_append]; exact hok) (by
    intro b hb
    rw [List.getLast?_append] at hb
    cases hb
    exact hl)
  rw [List.nil_append] at h
  unfold xp jap
  refine yai ?_
  refine vc (kg (by rw [jcI (n := 0) (r := r) rfl (v := .s (.list (jd r))) rfl rfl, hz]) rfl) ?_
  refine vc (kg (vp (len0 r .un .un .un) rfl (by omega)) rfl) ?_
  refine vc (ρ1 := [.dat (.list (jd r)), .own (jd []), .un, .un]) (xad (vn qc rfl (by decide)) rfl) ?_
  refine vc (ρ1 := [.dat (.list (jd r)), .own (jd []), .dat (.int 0), .un]) (yf (v := .s (.int 0)) rfl rfl rfl) ?_
  refine vc (vca h (by omega)) ?_
  have hdl : jd (dec (bs ++ [l])) ≠ [] := by
    intro e
    apply hne
    cases h2 : dec (bs ++ [l]) with
    | nil => rfl
    | cons a b => rw [h2] at e; cases e
  refine vc (ρ1 := [.dat (.list (jd r)), .own (jd (dec (bs ++ [l])).dropLast), .dat (.int (r.length : Nat)), s3']) (wdc (es := jd (dec (bs ++ [l]))) rfl hdl ?_) ?_
  · have e : (jd (dec (bs ++ [l]))).dropLast = jd (dec (bs ++ [l])).dropLast := by
      unfold jd
      rw [List.map_dropLast]
    rw [e]
    rfl
  exact qbK rfl
end FL
namespace ST
theorem cut : ∀ (n : Nat) (r : List Nat), r.length ≤ n → (∀ x ∈ r, 0 < x ∧ x < 256) → ∃ bs tail, r = enc bs ++ tail ∧ (∀ b ∈ bs, Ok b) ∧ (tail = [] ∨ ∃ x t, tail = x :: t ∧ t.length + 1 < x) := by
  intro n
  induction n with
  | zero =>
    intro r hr _
    have e : r = [] := List.length_eq_zero_iff.mp (by omega)
    subst e
    exact ⟨[], [], rfl, (fun _ h => nomatch h), .inl rfl⟩
  | succ n ih =>
    intro r hr hp
    cases r with
    | nil => exact ⟨[], [], rfl, (fun _ h => nomatch h), .inl rfl⟩
    | cons x t =>
      by_cases hx : t.length + 1 < x
      · exact ⟨[], x :: t, rfl, (fun _ h => nomatch h), .inr ⟨x, t, rfl, hx⟩⟩
      · have hx0 := hp x List.mem_cons_self
        have hl : (t.drop (x - 1)).length ≤ n := by
          rw [List.length_cons] at hr
          rw [List.length_drop]
          omega
        obtain ⟨bs, tail, e, hok, ht⟩ := ih (t.drop (x - 1)) hl fun y hy => hp y (List.mem_cons_of_mem _ (List.mem_of_mem_drop hy))
        have hb : (t.take (x - 1)).length = x - 1 := by
          rw [List.length_take]
          omega
        refine ⟨t.take (x - 1) :: bs, tail, ?_, ?_, ht⟩
        · simp only [enc, hb, List.cons_append, List.append_assoc]
          rw [← e, List.take_append_drop]
          congr 1
          omega
        · intro b hbm
          rcases List.mem_cons.mp hbm with rfl | hbm
          · exact ⟨by omega, fun y hy => hp y (List.mem_cons_of_mem _ (List.mem_of_mem_take hy))⟩
          · exact hok b hbm
theorem kcy (out : List Nat) : ∀ (b pre : List Nat), (∀ x ∈ b, 0 < x) → pre.length < 254 → pre.length + b.length ≤ 254 →
    b.foldl yN (out, pre) = if pre.length + b.length = 254 then (out ++ 255 :: (pre ++ b), []) else (out, pre ++ b) := by
  intro b
  induction b with
  | nil =>
    intro pre _ h1 _
    rw [if_neg (by simp; omega), List.append_nil]
    rfl
  | cons x b ih =>
    intro pre h h1 h2
    have hx := h x List.mem_cons_self
    rw [List.foldl_cons]
    rw [List.length_cons] at h2
    unfold yN
    rw [if_neg (by omega)]
    dsimp only
    by_cases hf : pre.length + 1 = 254
    · have hb : b = [] := List.length_eq_zero_iff.mp (by omega)
      subst hb
      rw [if_pos hf, if_pos (by simp; omega)]
      rfl
    · rw [if_neg hf]
      have q := ih (pre ++ [x]) (fun y hy => h y (List.mem_cons_of_mem _ hy)) (by simp; omega) (by simp; omega)
      have e1 : (pre ++ [x]).length + b.length = pre.length + (x :: b).length := by simp; omega
      have e2 : pre ++ [x] ++ b = pre ++ x :: b := by simp
      rw [e1, e2] at q
      exact q
theorem qcz : ∀ (bs : List (List Nat)) (out : List Nat), (∀ b ∈ bs, Ok b) → (dec bs).foldl yN (out, []) = (out ++ enc bs, []) := by
  intro bs
  induction bs with
  | nil => intro out _; simp [dec, enc]
  | cons b bs ih =>
    intro out h
    have hb := h b List.mem_cons_self
    have q := kcy out b [] (fun x hx => (hb.2 x hx).1) (by decide) (by simpa using hb.1)
    rw [List.nil_append] at q
    unfold dec
    rw [List.foldl_append, List.foldl_append, q]
    by_cases hf : b.length = 254
    · rw [if_pos (by simpa using hf), if_neg (by omega)]
      rw [List.foldl_nil, ih _ fun c hc => h c (List.mem_cons_of_mem _ hc)]
      simp [enc, hf]
    · have hlt : b.length < 254 := by have := hb.1; omega
      rw [if_neg (by simpa using hf), if_pos hlt]
      show (dec bs).foldl yN (yN (out, b) 0) = _
      have es : yN (out, b) 0 = (out ++ (b.length + 1) :: b, []) := by
        unfold yN
        rw [if_pos rfl]
      rw [es, ih _ fun c hc => h c (List.mem_cons_of_mem _ hc)]
      simp [enc]
theorem zbY (row : List Nat) : yr row = (run (row ++ [0])).1 := by
  unfold yr run
  rw [List.foldl_append]
  rfl
theorem jbY (bs : List (List Nat)) (l : List Nat) (h : ∀ b ∈ bs ++ [l], Ok b) (hl : l.length < 254) : yr (dec (bs ++ [l])).dropLast = enc (bs ++ [l]) ∧ ((dec (bs ++ [l])).dropLast ++ [0] = dec (bs ++ [l])) ∧ ∀ x ∈ (dec (bs ++ [l])).dropLast, x < 256 := by
  have e : dec (bs ++ [l]) = (dec bs ++ l) ++ [0] := by
    rw [yab]
    simp [dec, hl]
  have e2 : (dec (bs ++ [l])).dropLast ++ [0] = dec (bs ++ [l]) := by
    rw [e, List.dropLast_concat]
  refine ⟨?_, e2, ?_⟩
  · rw [zbY, e2]
    unfold run
    rw [qcz _ _ h]
    rfl
  · rw [e, List.dropLast_concat]
    have hd : ∀ (cs : List (List Nat)), (∀ b ∈ cs, Ok b) → ∀ x ∈ dec cs, x < 256 := by
      intro cs
      induction cs with
      | nil => exact fun _ _ h => nomatch h
      | cons c cs ih =>
        intro hc x hx
        unfold dec at hx
        rcases List.mem_append.mp hx with hx | hx
        · rcases List.mem_append.mp hx with hx | hx
          · exact ((hc c List.mem_cons_self).2 x hx).2
          · split at hx
            · rw [List.mem_singleton.mp hx]
              decide
            · cases hx
        · exact ih (fun b hb => hc b (List.mem_cons_of_mem _ hb)) x hx
    intro x hx
    rcases List.mem_append.mp hx with hx | hx
    · exact hd bs (fun b hb => h b (List.mem_append_left _ hb)) x hx
    · exact ((h l (List.mem_append_right _ (List.mem_singleton.mpr rfl))).2 x hx).2
end ST
namespace ST
theorem kcS (bs : List (List Nat)) (h : ∀ b ∈ bs, Ok b) : 254 * full bs ≤ (dec bs).length := by
  induction bs with
  | nil => simp [full, dec]
  | cons b bs ih =>
    have q := ih fun c hc => h c (List.mem_cons_of_mem _ hc)
    unfold full at *
    rw [List.countP_cons]
    unfold dec
    rw [List.length_append, List.length_append]
    by_cases hb : b.length = 254
    · simp only [hb, beq_self_eq_true, if_true]
      omega
    · have e : (b.length == 254) = false := beq_eq_false_iff_ne.mpr hb
      rw [e]
      simp only [Bool.false_eq_true, if_false]
      omega
end ST
namespace FL
open PySem PySem.Spec PyProof.Rows L2 DL FN
open ST (yN yr enc dec full)
theorem yby (r tail : List Nat) (hr : r.length ≤ 100000) (ht : tail ≠ []) : ∀ (suf pre : List (List Nat)) (s3 : DL.Slot), r = enc (pre ++ suf) ++ tail → (∀ b ∈ pre ++ suf, ST.Ok b) →
    ∃ s3', ∀ n, qw qbl z7 (suf.length + n) [.dat (.list (jd r)), .own (jd (dec pre)), .dat (.int ((enc pre).length : Nat)), s3] = qw qbl z7 n [.dat (.list (jd r)), .own (jd (dec (pre ++ suf))), .dat (.int ((enc (pre ++ suf)).length : Nat)), s3'] := by
  intro suf
  induction suf with
  | nil =>
    intro pre s3 er hok
    rw [List.append_nil]
    exact ⟨s3, fun n => by rw [List.length_nil, Nat.zero_add]⟩
  | cons b suf ih =>
    intro pre s3 er hok
    have hb := hok b (List.mem_append_right _ List.mem_cons_self)
    have er' : r = enc pre ++ ((b.length + 1) :: b ++ (enc suf ++ tail)) := by
      rw [er, ST.kT]
      simp [enc]
    have hlen : r.length = (enc pre).length + (b.length + 1) + (enc suf).length + tail.length := by
      rw [er']
      simp
      omega
    have hdl : (dec pre).length ≤ 100000 := by
      have q := ST.zZ pre fun c hc => hok c (List.mem_append_left _ hc)
      omega
    have t := wcb (enc pre) b (enc suf ++ tail) (dec pre) s3 r er' hb.1 (fun _ e => ht (List.append_eq_nil_iff.mp e).2) hr hdl
    have ed : dec pre ++ (b ++ (if b.length < 254 then [0] else [])) = dec (pre ++ [b]) := by
      rw [ST.yab]
      simp [dec]
    have ee : (enc pre).length + (b.length + 1) = (enc (pre ++ [b])).length := by
      rw [ST.kT]
      simp [enc]
    rw [ed, ee] at t
    have ep : pre ++ [b] ++ suf = pre ++ b :: suf := by simp
    obtain ⟨s3', h⟩ := ih (pre ++ [b]) (.dat (.int ((b.length + 1 : Nat) : Int))) (by rw [ep]; exact er) (by rw [ep]; exact hok)
    rw [ep] at h
    refine ⟨s3', fun n => ?_⟩
    rw [List.length_cons, show suf.length + 1 + n = (suf.length + n) + 1 by omega]
    exact xc3 (qq (zb rfl) (len0 _ _ _ _) (by omega)) t (h n)
theorem jcY {r : List Nat} (hp : ∀ y ∈ r, 0 < y ∧ y < 256) : r.contains 0 = false := by
  rw [List.contains_eq_any_beq, List.any_eq_false]
  intro x hx
  have := hp x hx
  simp
  omega
theorem kbc (r : List Nat) (hp : ∀ y ∈ r, 0 < y ∧ y < 256) (h0 : 0 < r.length) (n : Nat) (hn : n ≤ 1000000000) (ρ' : jc) (j : Int) (h : qw qbl z7 n [.dat (.list (jd r)), .own (jd []), .dat (.int 0), .un] = some (.exc ρ' 4 j)) : xp [.list (jd r)] = some (.exc 4 j) := by
  unfold xp jap
  refine xu (ρ' := ρ') ?_
  refine vc (kg (by rw [jcI (n := 0) (r := r) rfl (v := .s (.list (jd r))) rfl rfl, jcY hp]) rfl) ?_
  refine vc (kg (vp (len0 r .un .un .un) rfl (by omega)) rfl) ?_
  refine vc (ρ1 := [.dat (.list (jd r)), .own (jd []), .un, .un]) (xad (vn qc rfl (by decide)) rfl) ?_
  refine vc (ρ1 := [.dat (.list (jd r)), .own (jd []), .dat (.int 0), .un]) (yf (v := .s (.int 0)) rfl rfl rfl) ?_
  exact jB (vca h hn)
theorem jbz (bs : List (List Nat)) (x : Nat) (t r : List Nat) (er : r = enc bs ++ x :: t) (hok : ∀ b ∈ bs, ST.Ok b) (hx : t.length + 1 < x) (hr : r.length ≤ 100000) (hp : ∀ y ∈ r, 0 < y ∧ y < 256) : xp [.list (jd r)] = some (.exc 4 ((enc bs).length : Nat)) := by
  have hlen : r.length = (enc bs).length + (t.length + 1) := by
    rw [er]
    simp
  have hle := ST.xaP bs
  obtain ⟨s3', h⟩ := yby r (x :: t) hr (List.cons_ne_nil _ _) bs [] .un (by rw [List.nil_append]; exact er) (by rw [List.nil_append]; exact hok)
  rw [List.nil_append] at h
  have hat : atI (jd r) ((enc bs).length : Nat) = some (.int (x : Nat)) := by
    rw [yao (by omega)]
    congr 3
    subst er
    simp
  have turn : z7 [.dat (.list (jd r)), .own (jd (dec bs)), .dat (.int ((enc bs).length : Nat)), s3'] = some (.exc [.dat (.list (jd r)), .own (jd (dec bs)), .dat (.int ((enc bs).length : Nat)), .dat (.int (x : Nat))] 4 ((enc bs).length : Nat)) := by
    unfold z7
    refine vc (ρ1 := [.dat (.list (jd r)), .own (jd (dec bs)), .dat (.int ((enc bs).length : Nat)), .dat (.int (x : Nat))]) (yf (ka4 (zb rfl) (zb rfl) hat) rfl rfl) ?_
    exact jB (wg (zy (vk (zb rfl) (zb rfl)) (len0 _ _ _ _) (by omega)) (jy (zb rfl)))
  refine kbc r hp (by omega) (bs.length + 1) (by omega) _ _ ((h 1).trans (wcI (qq (zb rfl) (len0 _ _ _ _) (by omega)) turn))
theorem vbM (bs : List (List Nat)) (l r : List Nat) (er : r = enc (bs ++ [l])) (hok : ∀ b ∈ bs ++ [l], ST.Ok b) (hl : l.length = 254) (hr : r.length ≤ 100000) : xp [.list (jd r)] = some (.exc 4 (r.length : Nat)) := by
  have hp : ∀ y ∈ r, 0 < y ∧ y < 256 := by
    rw [er]
    exact ST.xbn hok
  have er2 : r = enc bs ++ 255 :: l := by
    rw [er, ST.kT]
    simp [enc, hl]
  have hlen : r.length = (enc bs).length + (l.length + 1) := by
    rw [er2]
    simp
  have hle := ST.xaP bs
  obtain ⟨s3', h⟩ := yby r (255 :: l) hr (List.cons_ne_nil _ _) bs [] .un (by rw [List.nil_append]; exact er2) (by rw [List.nil_append]; exact fun b hb => hok b (List.mem_append_left _ hb))
  rw [List.nil_append] at h
  have hdl : (dec bs).length ≤ 100000 := by
    have q := ST.zZ bs fun c hc => hok c (List.mem_append_left _ hc)
    omega
  have hat : atI (jd r) ((enc bs).length : Nat) = some (.int ((255 : Nat) : Int)) := by
    rw [yao (by omega)]
    congr 3
    subst er2
    simp
  have c1 : (((enc bs).length : Nat) : Int) + 1 = (((enc bs).length + 1 : Nat) : Int) := by omega
  have c2 : (((enc bs).length : Nat) : Int) + ((255 : Nat) : Int) = ((r.length : Nat) : Int) := by omega
  have turn : z7 [.dat (.list (jd r)), .own (jd (dec bs)), .dat (.int ((enc bs).length : Nat)), s3'] = some (.exc [.dat (.list (jd r)), .own (jd (dec bs ++ l)), .dat (.int (r.length : Nat)), .dat (.int ((255 : Nat) : Int))] 4 (r.length : Nat)) := by
    have hcut : vV (jd r) (some (((enc bs).length + 1 : Nat) : Int)) (some (r.length : Int)) = jd l := by
      rw [kbf _ _ _ (by rw [xi]; omega) (by omega), qbb, kbp]
      congr 1
      rw [er2, List.drop_append, List.drop_of_length_le (by omega)]
      have e1 : (enc bs).length + 1 - (enc bs).length = 1 := by omega
      rw [e1]
      show (l.take ((enc bs ++ 255 :: l).length - ((enc bs).length + 1))) = l
      exact List.take_of_length_le (by rw [← er2]; omega)
    unfold z7
    refine vc (ρ1 := [.dat (.list (jd r)), .own (jd (dec bs)), .dat (.int ((enc bs).length : Nat)), .dat (.int ((255 : Nat) : Int))]) (yf (ka4 (zb rfl) (zb rfl) hat) rfl rfl) ?_
    refine vc (kg (vA (vk (zb rfl) (zb rfl)) (len0 _ _ _ _) (by omega)) rfl) ?_
    refine vc (ρ1 := [.dat (.list (jd r)), .own (jd (dec bs ++ l)), .dat (.int ((enc bs).length : Nat)), .dat (.int ((255 : Nat) : Int))])
      (wce (v := .f (jd l)) (us := jd l) (es := jd (dec bs)) rfl (by
        have q := ya4 (E := eV 0) (L := ve (e2 xb (eV 2) (eC (.int 1)))) (R := ve (e2 xb (eV 2) (eV 3))) (ρ := [.dat (.list (jd r)), .own (jd (dec bs)), .dat (.int ((enc bs).length : Nat)), .dat (.int ((255 : Nat) : Int))]) (zb rfl) (.inl rfl) (kad (vk (zb rfl) rfl)) (kad (vk (zb rfl) (zb rfl)))
        rw [c1, c2, hcut] at q
        exact q) rfl (by rw [xi, xi]; omega) (by rw [yW]; rfl)) ?_
    refine vc (ρ1 := [.dat (.list (jd r)), .own (jd (dec bs ++ l)), .dat (.int (r.length : Nat)), .dat (.int ((255 : Nat) : Int))]) (yce (a := ((enc bs).length : Nat)) rfl (zb rfl) (by rw [← c2]; rfl)) ?_
    exact kg (xv (zb rfl) rfl (by omega)) (wg (yv (zb rfl) (len0 _ _ _ _) rfl) (jy (zb rfl)))
  refine kbc r hp (by omega) (bs.length + 1) (by omega) _ _ ((h 1).trans (wcI (qq (zb rfl) (len0 _ _ _ _) (by omega)) turn))
theorem waJ (r : List Nat) (s1 s2 s3 s4 : DL.Slot) : eG xg (qa (eV 0) (ya)) [.dat (.list (jd r)), s1, s2, s3, s4] = some (.ok (.s (.int (r.length : Nat)))) := by
  have q := kaw (E := eV 0) (ρ := [.dat (.list (jd r)), s1, s2, s3, s4]) (v := .s (.list (jd r))) rfl rfl
  rw [xi] at q
  exact q
theorem zaU {α : Type} {l : List α} {i : Nat} (h : i < l.length) : l.take (i + 1) = l.take i ++ [l[i]] := by
  rw [List.take_succ_eq_append_getElem h]
theorem qax (n : Nat) : (yh 0 n).length = n := by simp [yh]
inductive Told (r : List Nat) : D → Prop
  | bad (j : Int) : Told r (.tuple [.str "bad", .int j])
  | row (row : List Nat) : (∀ x ∈ row, x < 256) → row.length ≤ r.length → yr row = r → Told r (.tuple [.str "row", .list (jd row)])
noncomputable def wae : FS := qg (tV (e2 jz (eV 2) (eG xg (qa (eV 0) (ya))))) (yb (yc 3 (e2 yg (eV 0) (eV 2))) (yb (qg (tV (e2 wz (e2 xb (eV 2) (eV 3)) (eG xg (qa (eV 0) (ya))))) (ji (eC .none)) (qh)) (yb (yc 1 (e2 xb (eV 1) (jm (eV 0) (ve (e2 xb (eV 2) (eC (.int 1)))) (ve (e2 xb (eV 2) (eV 3)))))) (yb (qg (tV (e2 jz (eV 3) (eC (.int 255)))) (yc 1 (e2 xb (eV 1) (jg (qa (eC (.int 0)) (ya))))) (qh)) (yc 2 (e2 xb (eV 2) (eV 3))))))) (qh)
theorem qcW (A B C R : List Nat) (s3 s4 : DL.Slot) (r : List Nat) (er : r = A ++ ((B.length + 1) :: B ++ C)) (hB : B.length ≤ 254) (hr : r.length ≤ 100000) (hR : R.length ≤ 100000) :
    wae [.dat (.list (jd r)), .dat (.list (jd R)), .dat (.int (A.length : Nat)), s3, s4] = some (.nx [.dat (.list (jd r)), .dat (.list (jd (R ++ (B ++ (if B.length < 254 then [0] else []))))), .dat (.int ((A.length + (B.length + 1) : Nat) : Int)), .dat (.int ((B.length + 1 : Nat) : Int)), s4]) := by
  have hlen : r.length = A.length + (B.length + 1) + C.length := by
    rw [er]
    simp
    omega
  have hat : atI (jd r) (A.length : Nat) = some (.int ((B.length + 1 : Nat) : Int)) := by
    rw [yao (by omega)]
    congr 3
    subst er
    simp
  have c1 : ((A.length : Nat) : Int) + 1 = ((A.length + 1 : Nat) : Int) := by omega
  have c2 : ((A.length : Nat) : Int) + ((B.length + 1 : Nat) : Int) = ((A.length + (B.length + 1) : Nat) : Int) := by omega
  have hcut : (r.drop (A.length + 1)).take (A.length + (B.length + 1) - (A.length + 1)) = B := by
    rw [er, List.drop_append, List.drop_of_length_le (by omega)]
    have e1 : A.length + 1 - A.length = 1 := by omega
    have e2 : A.length + (B.length + 1) - (A.length + 1) = B.length := by omega
    rw [e1, e2]
    simp
  unfold wae
  refine wg (qq (zb rfl) (waJ _ _ _ _ _) (by omega)) ?_
  refine vc (ρ1 := [.dat (.list (jd r)), .dat (.list (jd R)), .dat (.int (A.length : Nat)), .dat (.int ((B.length + 1 : Nat) : Int)), s4]) (yf (ka4 (zb rfl) (zb rfl) hat) rfl rfl) ?_
  refine vc (kg (vA (vk (zb rfl) (zb rfl)) (waJ _ _ _ _ _) (by omega)) rfl) ?_
  have hsl := zac (E := eV 0) (F := e2 xb (eV 2) (eC (.int 1))) (G := e2 xb (eV 2) (eV 3)) (ρ := [.dat (.list (jd r)), .dat (.list (jd R)), .dat (.int (A.length : Nat)), .dat (.int ((B.length + 1 : Nat) : Int)), s4]) (r := r) (i := A.length + 1) (j := A.length + (B.length + 1)) (zb rfl) (.inl rfl) (by rw [← c1]; exact vk (zb rfl) rfl) (by rw [← c2]; exact vk (zb rfl) (zb rfl)) (by omega) (by omega)
  rw [hcut] at hsl
  refine vc (ρ1 := [.dat (.list (jd r)), .dat (.list (jd (R ++ B))), .dat (.int (A.length : Nat)), .dat (.int ((B.length + 1 : Nat) : Int)), s4]) (yf (vB (a := .s (.list (jd R))) (zb rfl) hsl rfl rfl rfl (by omega)) rfl rfl) ?_
  refine vc (ρ1 := [.dat (.list (jd r)), .dat (.list (jd (R ++ (B ++ (if B.length < 254 then [0] else []))))), .dat (.int (A.length : Nat)), .dat (.int ((B.length + 1 : Nat) : Int)), s4]) ?_ (yf (vk (zb rfl) (zb rfl)) rfl (by rw [c2]; rfl))
  by_cases hf : B.length < 254
  · rw [if_pos hf, ← List.append_assoc]
    exact wg (qq (zb rfl) rfl (by omega)) (yf (vB (a := .s (.list (jd (R ++ B)))) (b := .f (jd [0])) (zb rfl) (vn (jb rfl qc) rfl (by simp)) rfl rfl rfl (by rw [List.length_append, List.length_singleton]; omega)) rfl rfl)
  · rw [if_neg hf, List.append_nil]
    exact kg (xv (zb rfl) rfl (by omega)) rfl
theorem zcW (r R : List Nat) (n : Nat) (hn : r.length ≤ n) (s3 s4 : DL.Slot) : wae [.dat (.list (jd r)), .dat (.list (jd R)), .dat (.int (n : Nat)), s3, s4] = some (.nx [.dat (.list (jd r)), .dat (.list (jd R)), .dat (.int (n : Nat)), s3, s4]) := by
  unfold wae
  exact kg (xv (zb rfl) (waJ _ _ _ _ _) (by omega)) rfl
def zbM (r : List Nat) (bs : List (List Nat)) (i : Nat) (ρ : jc) : Prop := ∃ s4 : DL.Slot, ρ = [.dat (.list (jd r)), .dat (.list (jd (dec (bs.take i)))), .dat (.int ((enc (bs.take i)).length : Nat)), .dat (.int (((bs.take i).getLast?.map (fun b => b.length + 1)).getD 255 : Nat)), s4]
theorem yca (r tail : List Nat) (bs : List (List Nat)) (er : r = enc bs ++ tail) (hok : ∀ b ∈ bs, ST.Ok b) (hr : r.length ≤ 100000) (i : Nat) (d : D) (ρ : jc) (hi : i < bs.length) (h : zbM r bs i ρ) : ∃ ρ1 ρ2, gN 4 d ρ = some ρ1 ∧ wae ρ1 = some (.nx ρ2) ∧ zbM r bs (i + 1) ρ2 := by
  obtain ⟨s4, rfl⟩ := h
  have hb := hok bs[i] (List.getElem_mem hi)
  have eb : bs = bs.take i ++ bs[i] :: bs.drop (i + 1) := by
    rw [← List.drop_eq_getElem_cons hi, List.take_append_drop]
  have er' : r = enc (bs.take i) ++ ((bs[i].length + 1) :: bs[i] ++ (enc (bs.drop (i + 1)) ++ tail)) := by
    rw [er]
    conv => lhs; rw [eb]
    rw [ST.kT]
    simp [enc]
  have hdl : (dec (bs.take i)).length ≤ 100000 := by
    have q := ST.zZ (bs.take i) fun c hc => hok c (List.mem_of_mem_take hc)
    have q2 : r.length = (enc (bs.take i)).length + ((bs[i].length + 1) :: bs[i] ++ (enc (bs.drop (i + 1)) ++ tail)).length := by
      conv => lhs; rw [er']
      rw [List.length_append]
    omega
  have t := qcW (enc (bs.take i)) bs[i] (enc (bs.drop (i + 1)) ++ tail) (dec (bs.take i)) (.dat (.int (((bs.take i).getLast?.map (fun b => b.length + 1)).getD 255 : Nat))) (.dat d) r er' hb.1 hr hdl
  refine ⟨_, _, rfl, t, .dat d, ?_⟩
  have ed : dec (bs.take i) ++ (bs[i] ++ (if bs[i].length < 254 then [0] else [])) = dec (bs.take (i + 1)) := by
    rw [zaU hi, ST.yab]
    simp [dec]
  have ee : (enc (bs.take i)).length + (bs[i].length + 1) = (enc (bs.take (i + 1))).length := by
    rw [zaU hi, ST.kT]
    simp [enc]
  have el : ((bs.take (i + 1)).getLast?.map (fun b => b.length + 1)).getD 255 = bs[i].length + 1 := by
    rw [zaU hi, List.getLast?_append]
    rfl
  rw [ed, ee, el]
theorem jbM {o : Option Out} (r : List Nat) {g : FS} (h : g [.dat (.list (jd r)), .dat (.list (jd [])), .dat (.int 0), .dat (.int 255), .un] = o) :
    yb (yc 1 (jg (ya))) (yb (yc 2 (eC (.int 0))) (yb (yc 3 (eC (.int 255))) g)) [.dat (.list (jd r)), .un, .un, .un, .un] = o := by
  refine vc (ρ1 := [.dat (.list (jd r)), .dat (.list (jd [])), .un, .un, .un]) (yf (vn qc rfl (by decide)) rfl rfl) ?_
  refine vc (ρ1 := [.dat (.list (jd r)), .dat (.list (jd [])), .dat (.int 0), .un, .un]) (yf (v := .s (.int 0)) rfl rfl rfl) ?_
  refine vc (ρ1 := [.dat (.list (jd r)), .dat (.list (jd [])), .dat (.int 0), .dat (.int 255), .un]) (yf (v := .s (.int 255)) rfl rfl rfl) ?_
  exact h
theorem wbM (bs : List (List Nat)) (x : Nat) (t r : List Nat) (er : r = enc bs ++ x :: t) (hok : ∀ b ∈ bs, ST.Ok b) (hx : t.length + 1 < x) (hr : r.length ≤ 100000) : yq [.list (jd r)] = some (.ret .none) := by
  have hlen : r.length = (enc bs).length + (t.length + 1) := by
    rw [er]
    simp
  have hle := ST.xaP bs
  have hat : atI (jd r) ((enc bs).length : Nat) = some (.int (x : Nat)) := by
    rw [yao (by omega)]
    congr 3
    subst er
    simp
  have key := kcB (g := gN 4) (body := wae) (o := .ret .none) (ds := yh 0 r.length) (ρ := [.dat (.list (jd r)), .dat (.list (jd [])), .dat (.int 0), .dat (.int 255), .un]) (m := bs.length) (zbM r bs)
    (by rw [qax]; omega) ⟨.un, rfl⟩ (fun i d ρ hi _ h => yca r (x :: t) bs er hok hr i d ρ hi h) (by
      rintro d ρ _ ⟨s4, rfl⟩
      rw [List.take_length]
      refine ⟨_, rfl, ?_⟩
      unfold wae
      refine wg (qq (zb rfl) (waJ _ _ _ _ _) (by omega)) ?_
      refine vc (ρ1 := [.dat (.list (jd r)), .dat (.list (jd (dec bs))), .dat (.int ((enc bs).length : Nat)), .dat (.int (x : Nat)), .dat d]) (yf (ka4 (zb rfl) (zb rfl) hat) rfl rfl) ?_
      exact jS (wg (zy (vk (zb rfl) (zb rfl)) (waJ _ _ _ _ _) (by omega)) (wu rfl))) (.inl ⟨_, rfl⟩)
  unfold yq vK
  refine zw (jbM r ?_)
  exact jS (wB (zE (waJ _ _ _ _ _) (by omega) (by omega)) key)
theorem vbc (bs : List (List Nat)) (l r : List Nat) (er : r = enc (bs ++ [l])) (hok : ∀ b ∈ bs ++ [l], ST.Ok b) (hr : r.length ≤ 100000) : ∃ s4, forL (gN 4) wae (yh 0 r.length) [.dat (.list (jd r)), .dat (.list (jd [])), .dat (.int 0), .dat (.int 255), .un] = some (.nx [.dat (.list (jd r)), .dat (.list (jd (dec (bs ++ [l])))), .dat (.int ((enc (bs ++ [l])).length : Nat)), .dat (.int (l.length + 1 : Nat)), s4]) := by
  have hle := ST.xaP (bs ++ [l])
  rw [← er] at hle
  have key := wx (g := gN 4) (body := wae) (ds := yh 0 r.length) (ρ := [.dat (.list (jd r)), .dat (.list (jd [])), .dat (.int 0), .dat (.int 255), .un]) (zbM r (bs ++ [l])) ⟨.un, rfl⟩ (by
    intro i d ρ hd h
    by_cases hi : i < (bs ++ [l]).length
    · exact yca r [] (bs ++ [l]) (by rw [List.append_nil]; exact er) hok hr i d ρ hi h
    · obtain ⟨s4, rfl⟩ := h
      have e1 : (bs ++ [l]).take i = bs ++ [l] := List.take_of_length_le (by omega)
      have e2 : (bs ++ [l]).take (i + 1) = bs ++ [l] := List.take_of_length_le (by omega)
      unfold zbM
      rw [e1, e2]
      refine ⟨_, _, rfl, zcW r _ _ (by rw [er]; exact Nat.le_refl _) _ _, .dat d, rfl⟩)
  obtain ⟨ρ', h1, s4, rfl⟩ := key
  rw [qax, List.take_of_length_le hle] at h1
  have el : ((bs ++ [l]).getLast?.map (fun b => b.length + 1)).getD 255 = l.length + 1 := by
    rw [List.getLast?_append]
    rfl
  rw [el] at h1
  exact ⟨s4, h1⟩
theorem jbZ (bs : List (List Nat)) (l r : List Nat) (er : r = enc (bs ++ [l])) (hok : ∀ b ∈ bs ++ [l], ST.Ok b) (hr : r.length ≤ 100000) (hf : l.length = 254) : yq [.list (jd r)] = some (.ret .none) := by
  obtain ⟨s4, h1⟩ := vbc bs l r er hok hr
  unfold yq vK
  refine zw (jbM r ?_)
  refine vc (wB (zE (waJ _ _ _ _ _) (by omega) (by omega)) h1) ?_
  exact jS (wg (yv (zb rfl) rfl (by omega)) (wu rfl))
theorem wct (bs : List (List Nat)) (l r : List Nat) (er : r = enc (bs ++ [l])) (hok : ∀ b ∈ bs ++ [l], ST.Ok b) (hr : r.length ≤ 100000) (hf : l.length ≠ 254) : yq [.list (jd r)] = some (.retF (jd (dec (bs ++ [l])).dropLast)) := by
  obtain ⟨s4, h1⟩ := vbc bs l r er hok hr
  unfold yq vK
  refine yai (jbM r ?_)
  refine vc (wB (zE (waJ _ _ _ _ _) (by omega) (by omega)) h1) ?_
  refine vc (kg (vp (zb rfl) rfl (by omega)) rfl) ?_
  refine ybi ?_
  rw [ya4 (zb rfl) (.inl rfl) rfl (kad rfl), qby, wbc]
theorem qbg (r : List Nat) (hp : ∀ x ∈ r, 0 < x ∧ x < 256) (hn : r ≠ []) (hr : r.length ≤ 100000) : (∃ j, xp [.list (jd r)] = some (.exc 4 j) ∧ yq [.list (jd r)] = some (.ret .none)) ∨ ∃ w : List Nat, (∀ x ∈ w, x < 256) ∧ w.length ≤ r.length ∧ xp [.list (jd r)] = some (.retF (jd w)) ∧ yq [.list (jd r)] = some (.retF (jd w)) := by
  obtain ⟨bs, tail, er, hok, ht⟩ := ST.cut r.length r (Nat.le_refl _) hp
  rcases ht with rfl | ⟨x, t, rfl, hx⟩
  · rw [List.append_nil] at er
    rcases List.eq_nil_or_concat bs with rfl | ⟨cs, l, rfl⟩
    · exact absurd er hn
    rw [List.concat_eq_append] at er hok
    have hb := (hok l (List.mem_append_right _ (List.mem_singleton.mpr rfl))).1
    by_cases hf : l.length = 254
    · exact .inl ⟨_, vbM cs l r er hok hf hr, jbZ cs l r er hok hr hf⟩
    · have u := xbj cs l hok (by omega) (by rw [← er]; omega)
      rw [← er] at u
      obtain ⟨s1, s2, s3⟩ := ST.jbY cs l hok (by omega)
      refine .inr ⟨_, s3, ?_, u, wct cs l r er hok hr hf⟩
      have e1 := ST.zZ _ hok
      rw [← er] at e1
      rw [List.length_dropLast]
      omega
  · exact .inl ⟨_, jbz bs x t r er hok hx hr hp, wbM bs x t r er hok hx hr⟩
end FL
namespace FL
open PySem PySem.Spec PyProof.Rows L2 DL FN
open LF (zj)
def kbj : Except (Nat × Nat) zj → D
  | .ok l => lfD l
  | .error _ => .none
noncomputable def loT : FS := yb (yc 6 (wc FN.vx 3 (qa (eV 0) (qa (eV 4) (qa (eV 5) (ya)))))) (yb (qg (tV (e2 wV (eV 6) (eC .none))) (ji (eC .none)) (qh)) (yb (xF 1 (e2 yg (eV 6) (eC (.int 0)))) (yc 4 (e2 yg (eV 6) (eC (.int 1))))))
noncomputable def loE : FS := yb (qg (zB (tV (e2 vO (eV 4) (eG xg (qa (eV 0) (ya))))) (tV (e2 wz (e2 yg (eV 0) (eV 4)) (eC (.int 1))))) (ji (eC .none)) (qh)) (yb (yc 6 (wc FN.vx 3 (qa (eV 0) (qa (e2 xb (eV 4) (eC (.int 1))) (qa (eC (.int 1025)) (ya)))))) (yb (qg (zB (tV (e2 wV (eV 6) (eC .none))) (tV (e2 gNe (eG xg (qa (eV 0) (ya))) (e2 xb (e2 xb (e2 yg (eV 6) (eC (.int 1))) (e2 yg (eV 6) (eC (.int 0)))) (eC (.int 4)))))) (ji (eC .none)) (qh)) (yb (yc 7 (e2 xb (e2 yg (eV 6) (eC (.int 1))) (e2 yg (eV 6) (eC (.int 0))))) (yb (qg (tV (e2 gNe (eG qbf (qa (zz [2] (wF 2) (wi (qa (eC (.int 4)) (ya))) (fun _ => some (.ok true)) (e2 zV (e2 yg (eV 0) (e2 xb (eV 7) (eV 2))) (e2 jq (eC (.int 8)) (eV 2)))) (ya))) (wc FN.zD 1 (qa (jm (eV 0) (jj) (ve (eV 7))) (ya))))) (ji (eC .none)) (qh)) (ji (eG vbh (qa (e2 xb (eV 1) (jg (qa (e2 yg (eV 0) (eV 4)) (qa (jm (eV 0) (ve (e2 yg (eV 6) (eC (.int 1)))) (ve (eV 7))) (ya))))) (ya))))))))
def qX (r F : List Nat) (a : Nat) (s5 s6 : DL.Slot) : jc := [.dat (.list (jd r)), .own (jd F), .un, .un, .dat (.int (a : Nat)), s5, s6, .un]
theorem zbb {r F : List Nat} {a top : Nat} {bnd : Int} {s6 : DL.Slot} (ha : a ≤ r.length) (hl : r.length ≤ 100000) (hb : bnd = ((top + 1 : Nat) : Int)) (h : LF.rd r a top = none) : loT (qX r F a (.dat (.int bnd)) s6) = some (.ret .none) := by
  subst hb
  have q := kai r a top ha hl
  rw [h] at q
  unfold loT qX
  refine vc (ρ1 := [.dat (.list (jd r)), .own (jd F), .un, .un, .dat (.int (a : Nat)), .dat (.int ((top + 1 : Nat) : Int)), .dat .none, .un]) (yf (jl (jb (zb rfl) (jb (zb rfl) (jb (zb rfl) qc))) rfl rfl q) rfl rfl) ?_
  exact jS (wg (jab rfl) (wu rfl))
theorem jbb {r F : List Nat} {a top n s : Nat} {bnd : Int} {s6 : DL.Slot} (ha : a ≤ r.length) (hl : r.length ≤ 100000) (hb : bnd = ((top + 1 : Nat) : Int)) (h : LF.rd r a top = some (n, s)) (hF : F.length ≤ 100) : loT (qX r F a (.dat (.int bnd)) s6) = some (.nx (qX r (F ++ [n]) s (.dat (.int bnd)) (.dat (lnD (some (n, s)))))) := by
  subst hb
  have q := kai r a top ha hl
  rw [h] at q
  unfold loT qX
  refine vc (ρ1 := [.dat (.list (jd r)), .own (jd F), .un, .un, .dat (.int (a : Nat)), .dat (.int ((top + 1 : Nat) : Int)), .dat (lnD (some (n, s))), .un]) (yf (jl (jb (zb rfl) (jb (zb rfl) (jb (zb rfl) qc))) rfl rfl q) rfl rfl) ?_
  refine vc (kg (by exact yaA (a := lnD (some (n, s))) (zb rfl) rfl) rfl) ?_
  refine vc (ρ1 := [.dat (.list (jd r)), .own (jd (F ++ [n])), .un, .un, .dat (.int (a : Nat)), .dat (.int ((top + 1 : Nat) : Int)), .dat (lnD (some (n, s))), .un]) (qct rfl (kba (zb rfl) rfl rfl) (by omega) rfl) ?_
  exact yf (kba (zb rfl) rfl rfl) rfl rfl
theorem jaU (r : List Nat) (s1 s2 s3 s4 s5 s6 s7 : DL.Slot) : eG xg (qa (eV 0) (ya)) [.dat (.list (jd r)), s1, s2, s3, s4, s5, s6, s7] = some (.ok (.s (.int (r.length : Nat)))) := by
  have q := kaw (E := eV 0) (ρ := [.dat (.list (jd r)), s1, s2, s3, s4, s5, s6, s7]) (v := .s (.list (jd r))) rfl rfl
  rw [xi] at q
  exact q
theorem jcW (r : List Nat) (hr : ∀ x ∈ r, x < 256) (hl : r.length ≤ 100000) (jf ordinal time span a4 : Nat) (ha : a4 ≤ r.length) (h9 : 9 ≤ r.length) (s5 s6 : DL.Slot) : loE (qX r [r.getD 0 0, LF.kh ((r.drop 1).take 4), LF.kh ((r.drop 5).take 4), jf, ordinal, time, span] a4 s5 s6) = some (.ret (kbj (LF.vS r jf ordinal time span a4))) := by
  unfold LF.vS loE qX
  by_cases h1 : r.length ≤ a4 ∨ 1 < r.getD a4 0
  · rw [if_pos h1]
    refine jS (wg ?_ (wu rfl))
    by_cases h2 : r.length ≤ a4
    · exact xS (yZ (zb rfl) (jaU r _ _ _ _ _ _ _) (by omega))
    · exact vu (jE (zb rfl) (jaU r _ _ _ _ _ _ _) (by omega)) (zy (wM (zb rfl) (zb rfl) (by omega)) rfl (by omega))
  rw [if_neg h1]
  have h2 : a4 < r.length := by omega
  refine vc (kg (vu (jE (zb rfl) (jaU r _ _ _ _ _ _ _) (by omega)) (vA (wM (zb rfl) (zb rfl) h2) rfl (by omega))) rfl) ?_
  have q := kai r (a4 + 1) 1024 (by omega) hl
  cases e : LF.rd r (a4 + 1) 1024 with
  | none =>
    rw [e] at q
    refine vc (yf (jl (jb (zb rfl) (jb (wm (zb rfl) rfl) (jb rfl qc))) rfl rfl q) rfl rfl) ?_
    exact jS (wg (xS (jab rfl)) (wu rfl))
  | some z =>
    obtain ⟨size, a5⟩ := z
    rw [e] at q
    obtain ⟨d1, d2, d3⟩ := LF.zax e
    refine vc (yf (d := lnD (some (size, a5))) (jl (jb (zb rfl) (jb (wm (zb rfl) rfl) (jb rfl qc))) rfl rfl q) rfl rfl) ?_
    dsimp only [List.set]
    have g1 : ∀ s7 : DL.Slot, e2 xb (e2 yg (eV 6) (eC (.int 1))) (e2 yg (eV 6) (eC (.int 0))) [.dat (.list (jd r)), .own (jd [r.getD 0 0, LF.kh ((r.drop 1).take 4), LF.kh ((r.drop 5).take 4), jf, ordinal, time, span]), .un, .un, .dat (.int (a4 : Nat)), s5, .dat (lnD (some (size, a5))), s7] = some (.ok (.s (.int ((a5 + size : Nat) : Int)))) := fun s7 => wm (kba (zb rfl) rfl rfl) (kba (zb rfl) rfl rfl)
    have hchk := vct (r := r) (s := a5 + size) (x := sumOf (r.take (a5 + size))) hr (LF.wcC _)
    by_cases h3 : r.length = a5 + size + 4
    · refine vc (kg (vu (by exact yaA (a := lnD (some (size, a5))) (zb rfl) rfl) (zaR (jaU r _ _ _ _ _ _ _) (wm (j := 4) (g1 _) rfl) (by omega))) rfl) ?_
      refine vc (ρ1 := [.dat (.list (jd r)), .own (jd [r.getD 0 0, LF.kh ((r.drop 1).take 4), LF.kh ((r.drop 5).take 4), jf, ordinal, time, span]), .un, .un, .dat (.int (a4 : Nat)), s5, .dat (lnD (some (size, a5))), .dat (.int ((a5 + size : Nat) : Int))]) (yf (g1 _) rfl rfl) ?_
      have hs := kc4 (ρ := [.dat (.list (jd r)), .own (jd [r.getD 0 0, LF.kh ((r.drop 1).take 4), LF.kh ((r.drop 5).take 4), jf, ordinal, time, span]), .un, .un, .dat (.int (a4 : Nat)), s5, .dat (lnD (some (size, a5))), .dat (.int ((a5 + size : Nat) : Int))]) (v := 2) (r := r) (a := a5 + size) (fi := e2 xb (eV 7) (eV 2)) (fk := eV 2) hr (by omega) rfl (fun k hk => ⟨_, rfl, rfl, wm (zb rfl) (zb rfl), zb rfl⟩)
      have htk : ∀ x ∈ r.take (a5 + size), x < 256 := fun x hx => hr x (List.mem_of_mem_take hx)
      have hsl := xbK (E := eV 0) (F := eV 7) (ρ := [.dat (.list (jd r)), .own (jd [r.getD 0 0, LF.kh ((r.drop 1).take 4), LF.kh ((r.drop 5).take 4), jf, ordinal, time, span]), .un, .un, .dat (.int (a4 : Nat)), s5, .dat (lnD (some (size, a5))), .dat (.int ((a5 + size : Nat) : Int))]) (r := r) (i := a5 + size) (zb rfl) (.inl rfl) (zb rfl)
      have hck := jl (n := 1) (G := FN.zD) (jb hsl qc) rfl rfl (ja5 _ htk)
      have h4 : ¬ r.length < a5 + size := by omega
      try dsimp only
      rw [if_neg h4]
      by_cases h5 : r.drop (a5 + size) ≠ LF.four (sumOf (r.take (a5 + size)))
      · rw [if_pos h5]
        refine jS (wg (jaR hs hck ?_) (wu rfl))
        intro z
        exact h5 ((hchk (by omega)).mpr ⟨h3, by omega⟩)
      · rw [if_neg h5]
        have h6 := ((hchk (by omega)).mp (Classical.not_not.mp h5)).2
        refine vc (kg (zaR hs hck (by omega)) rfl) ?_
        refine wu (wa4 (jb (xaT (a := .b (jd [r.getD 0 0, LF.kh ((r.drop 1).take 4), LF.kh ((r.drop 5).take 4), jf, ordinal, time, span])) (b := .f [.int (r.getD a4 0 : Nat), .list (jd ((r.drop a5).take size))]) (r_b rfl) ?_ rfl rfl rfl ?_) qc) rfl)
        · have hm := zac (E := eV 0) (F := e2 yg (eV 6) (eC (.int 1))) (G := eV 7) (ρ := [.dat (.list (jd r)), .own (jd [r.getD 0 0, LF.kh ((r.drop 1).take 4), LF.kh ((r.drop 5).take 4), jf, ordinal, time, span]), .un, .un, .dat (.int (a4 : Nat)), s5, .dat (lnD (some (size, a5))), .dat (.int ((a5 + size : Nat) : Int))]) (r := r) (i := a5) (j := a5 + size) (zb rfl) (.inl rfl) (kba (zb rfl) rfl rfl) (zb rfl) (by omega) (by omega)
          rw [Nat.add_sub_cancel_left] at hm
          exact vn (jb (wM (zb rfl) (zb rfl) h2) (jb hm qc)) rfl (by simp)
        · rw [xi]; simp
    · have h7 : kbj (if r.length < a5 + size then Except.error (14, a5) else if r.drop (a5 + size) ≠ LF.four (sumOf (r.take (a5 + size))) then Except.error (15, a5 + size) else Except.ok ⟨r.getD 0 0, LF.kh ((r.drop 1).take 4), LF.kh ((r.drop 5).take 4), jf, ordinal, time, span, r.getD a4 0, (r.drop a5).take size⟩) = .none := by
        by_cases h4 : r.length < a5 + size
        · rw [if_pos h4]; rfl
        · rw [if_neg h4]
          by_cases h5 : r.drop (a5 + size) ≠ LF.four (sumOf (r.take (a5 + size)))
          · rw [if_pos h5]; rfl
          · exact absurd ((hchk (by omega)).mp (Classical.not_not.mp h5)).1 h3
      refine (?_ : _ = some (Out.ret .none)).trans (by rw [← h7])
      exact jS (wg (vu (by exact yaA (a := lnD (some (size, a5))) (zb rfl) rfl) (jaR (jaU r _ _ _ _ _ _ _) (wm (j := 4) (g1 _) rfl) (by omega))) (wu rfl))
theorem zcf (r : List Nat) (hr : ∀ x ∈ r, x < 256) (hl : r.length ≤ 100000) : zP [.list (jd r)] = some (.ret (kbj (LF.read r))) := by
  unfold zP xZ
  refine zw ?_
  show yb _ _ [.dat (.list (jd r)), .un, .un, .un, .un, .un, .un, .un] = _
  unfold LF.read
  by_cases h9 : r.length < 9
  · have e : (kbj (if r.length = 0 ∨ 4 < r.getD 0 0 then Except.error (5, 0) else if r.length < 5 then Except.error (6, 1) else if r.length < 9 then Except.error (7, 5) else (LF.read r))) = .none := by
      by_cases h1 : r.length = 0 ∨ 4 < r.getD 0 0
      · rw [if_pos h1]; rfl
      · rw [if_neg h1]
        by_cases h2 : r.length < 5
        · rw [if_pos h2]; rfl
        · rw [if_neg h2, if_pos h9]; rfl
    rw [if_pos h9]
    rw [if_pos h9] at e
    rw [e]
    exact jS (wg (xS (qq (jaU r _ _ _ _ _ _ _) rfl (by omega))) (wu rfl))
  have g0 : ∀ s1 s2 s3 s4 s5 s6 s7 : DL.Slot, e2 yg (eV 0) (eC (.int 0)) [.dat (.list (jd r)), s1, s2, s3, s4, s5, s6, s7] = some (.ok (.s (.int (r.getD 0 0 : Nat)))) := fun _ _ _ _ _ _ _ => wM (i := 0) (zb rfl) rfl (by omega)
  by_cases h1 : 4 < r.getD 0 0
  · rw [if_pos (.inr h1)]
    exact jS (wg (vu (xv (jaU r _ _ _ _ _ _ _) rfl (by omega)) (zy (g0 _ _ _ _ _ _ _) rfl (by omega))) (wu rfl))
  rw [if_neg (by omega), if_neg (by omega), if_neg h9]
  refine vc (kg (vu (xv (jaU r _ _ _ _ _ _ _) rfl (by omega)) (vA (g0 _ _ _ _ _ _ _) rfl (by omega))) rfl) ?_
  have hc := vao (vs := [3]) (st := wF 3) (a := qa (eC (.int 2)) (ya)) (tt := fun _ => some (.ok true)) (fe := eG qbf (qa (zz [2] (wF 2) (wi (qa (eC (.int 4)) (ya))) (fun _ => some (.ok true)) (e2 zV (e2 yg (eV 0) (e2 xb (e2 xb (eC (.int 1)) (e2 jq (eC (.int 4)) (eV 3))) (eV 2))) (e2 jq (eC (.int 8)) (eV 2)))) (ya))) (ρ := [.dat (.list (jd r)), .un, .un, .un, .un, .un, .un, .un]) (n := 2) (F := fun k => .int ((LF.kh ((r.drop (1 + 4 * k)).take 4) : Nat) : Int)) rfl (zE (j := 2) rfl (by decide) (by decide)) (by decide) (fun k hk => by
    refine ⟨_, _, rfl, rfl, kc4 hr (a := 1 + 4 * k) (by omega) rfl (fun j hj => ⟨_, rfl, rfl, ?_, zb rfl⟩), rfl⟩
    exact wm (wm (i := 1) rfl (xao (i := 4) rfl (zb rfl) (.inl (by decide)))) (zb rfl))
  have hcat := xaT (fa := jg (qa (e2 yg (eV 0) (eC (.int 0))) (ya))) (vn (jb (g0 .un .un .un .un .un .un .un) qc) rfl (by simp)) hc rfl rfl rfl (by simp)
  refine vc (xad hcat (ρ1 := [.dat (.list (jd r)), .own (jd [r.getD 0 0, LF.kh ((r.drop 1).take 4), LF.kh ((r.drop 5).take 4)]), .un, .un, .un, .un, .un, .un]) rfl) ?_
  refine vc (ρ1 := qX r [r.getD 0 0, LF.kh ((r.drop 1).take 4), LF.kh ((r.drop 5).take 4)] 9 .un .un) (yf (v := .s (.int 9)) rfl rfl rfl) ?_
  have it : yM (jg (qa (eC (.int 16)) (qa (eC (.int 16777216)) (qa (eC (.int 1099511627776)) (qa (eC (.int 16777216)) (ya)))))) (qX r [r.getD 0 0, LF.kh ((r.drop 1).take 4), LF.kh ((r.drop 5).take 4)] 9 .un .un) = some (.ok [.int 16, .int 16777216, .int 1099511627776, .int 16777216]) := xbi (vn (jb rfl (jb rfl (jb rfl (jb rfl qc)))) rfl (by simp))
  cases e1 : LF.rd r 9 15 with
  | none => exact jS (wB it (qbk (ρ1 := qX r _ 9 (.dat (.int 16)) .un) rfl (zbb (top := 15) (by omega) hl rfl e1)))
  | some z1 =>
    obtain ⟨jf, a1⟩ := z1
    obtain ⟨b1, b2, b3⟩ := LF.zax e1
    have n1 := jbb (F := [r.getD 0 0, LF.kh ((r.drop 1).take 4), LF.kh ((r.drop 5).take 4)]) (bnd := 16) (s6 := .un) (by omega) hl rfl e1 (by simp)
    dsimp only
    cases e2 : LF.rd r a1 16777215 with
    | none => exact jS (wB it (xA (ρ1 := qX r _ 9 (.dat (.int 16)) .un) rfl n1 (qbk (ρ1 := qX r _ a1 (.dat (.int 16777216)) _) rfl (zbb (top := 16777215) b1 hl rfl e2))))
    | some z2 =>
      obtain ⟨ordinal, a2⟩ := z2
      obtain ⟨c1, c2, c3⟩ := LF.zax e2
      have n2 := jbb (F := [r.getD 0 0, LF.kh ((r.drop 1).take 4), LF.kh ((r.drop 5).take 4)] ++ [jf]) (bnd := 16777216) (s6 := .dat (lnD (some (jf, a1)))) b1 hl rfl e2 (by simp)
      dsimp only
      cases e3 : LF.rd r a2 1099511627775 with
      | none => exact jS (wB it (xA (ρ1 := qX r _ 9 (.dat (.int 16)) .un) rfl n1 (xA (ρ1 := qX r _ a1 (.dat (.int 16777216)) _) rfl n2 (qbk (ρ1 := qX r _ a2 (.dat (.int 1099511627776)) _) rfl (zbb (top := 1099511627775) c1 hl rfl e3)))))
      | some z3 =>
        obtain ⟨time, a3⟩ := z3
        obtain ⟨t1, t2, t3⟩ := LF.zax e3
        have n3 := jbb (F := [r.getD 0 0, LF.kh ((r.drop 1).take 4), LF.kh ((r.drop 5).take 4)] ++ [jf] ++ [ordinal]) (bnd := 1099511627776) (s6 := .dat (lnD (some (ordinal, a2)))) c1 hl rfl e3 (by simp)
        dsimp only
        cases e4 : LF.rd r a3 16777215 with
        | none => exact jS (wB it (xA (ρ1 := qX r _ 9 (.dat (.int 16)) .un) rfl n1 (xA (ρ1 := qX r _ a1 (.dat (.int 16777216)) _) rfl n2 (xA (ρ1 := qX r _ a2 (.dat (.int 1099511627776)) _) rfl n3 (qbk (ρ1 := qX r _ a3 (.dat (.int 16777216)) _) rfl (zbb (top := 16777215) t1 hl rfl e4))))))
        | some z4 =>
          obtain ⟨span, a4⟩ := z4
          obtain ⟨u1, u2, u3⟩ := LF.zax e4
          have n4 := jbb (F := [r.getD 0 0, LF.kh ((r.drop 1).take 4), LF.kh ((r.drop 5).take 4)] ++ [jf] ++ [ordinal] ++ [time]) (bnd := 16777216) (s6 := .dat (lnD (some (time, a3)))) t1 hl rfl e4 (by simp)
          dsimp only
          refine vc (wB it (xA (ρ1 := qX r _ 9 (.dat (.int 16)) .un) rfl n1 (xA (ρ1 := qX r _ a1 (.dat (.int 16777216)) _) rfl n2 (xA (ρ1 := qX r _ a2 (.dat (.int 1099511627776)) _) rfl n3 (xA (ρ1 := qX r _ a3 (.dat (.int 16777216)) _) rfl n4 rfl))))) ?_
          exact jcW r hr hl jf ordinal time span a4 u1 (by omega) _ _
end FL
namespace FN
open PySem PySem.Spec PyProof.Rows L2 DL
noncomputable section
end
end FN
namespace FL
open PySem PySem.Spec PyProof.Rows L2 DL FN
open LF (zj)
section
variable {f g : FS} {ρ ρ1 : jc} {o : Out} {n k : Nat} {ds : List D} {G : DF} {A : FA} {vs : List Val} {es as : List D} {d : D} {c : Nat} {j : Int}
end
def lfL (l : zj) : List D := [.int (l.kind : Nat), .int (l.xk : Nat), .int (l.number : Nat), .int (l.jf : Nat), .int (l.ordinal : Nat), .int (l.time : Nat), .int (l.span : Nat), .int (l.key : Nat), .list (jd l.body)]
end FL
namespace FL
open PySem PySem.Spec PyProof.Rows L2 DL FN
open LF (zj)
theorem qcg {l : zj} (h : l.Ok) : ∀ x ∈ l.wy, x < 256 := by
  intro x hx
  unfold LF.zj.wy at hx
  rcases List.mem_append.mp hx with hx | hx
  · exact wby h x hx
  · exact LF.zbr _ x hx
theorem vbZ {l : zj} (h : l.Ok) : l.wy.length ≤ 1200 ∧ l.wy.length = l.fields.length + 4 := by
  have := (zbl h).1
  have e : l.wy.length = l.fields.length + 4 := by
    unfold LF.zj.wy
    rw [List.length_append]
    rfl
  omega
end FL
namespace K04
end K04
namespace FN
open PySem PySem.Spec PyProof.Rows L2 DL
noncomputable section
end
end FN
namespace CG
def fr : List Nat → List Nat → Nat
  | x :: a, y :: b => if x = y then fr a b + 1 else 0
  | _, _ => 0
def bk (a b : List Nat) : Nat := min (fr a.reverse b.reverse) (min a.length b.length - fr a b)
def ap (a : List Nat) (f k : Nat) (m : List Nat) : List Nat := a.take f ++ (m ++ a.drop (a.length - k))
end CG
namespace FL
open PySem PySem.Spec PyProof.Rows L2 DL FN
open CG
section
variable (a b : List Nat) (s2 s3 : DL.Slot)
end
end FL
namespace CG
section
variable {a m : List Nat} {f k : Nat}
end
end CG
namespace DL
open PySem PySem.Spec PyProof.Rows L2
def pl (bb : Bool) : Nat → D → Bool
  | _, .int _ => true
  | _, .none => true
  | _, .bool _ => bb
  | _, .str x => PyData.canLay0 (.str x)
  | n + 1, .list xs => xs.all (pl bb n)
  | n + 1, .tuple xs => xs.all (pl bb n)
  | _, _ => false
theorem vc4 {bb : Bool} : ∀ (n : Nat) (d : D), pl bb n d = true → PyData.canLay0 d = true ∧ PyData.depth d ≤ n := by
  intro n
  induction n with
  | zero =>
    intro d h
    cases d with
    | str x => exact ⟨h, Nat.le_refl _⟩
    | list xs => exact absurd h (by simp [pl])
    | tuple xs => exact absurd h (by simp [pl])
    | dict xs => exact absurd h (by simp [pl])
    | _ => exact ⟨rfl, Nat.le_refl _⟩
  | succ n ih =>
    have all : ∀ xs : List D, xs.all (pl bb n) = true → PyData.canLayAll0 xs = true ∧ PyData.depthAll xs ≤ n := by
      intro xs
      induction xs with
      | nil => intro _; exact ⟨rfl, Nat.zero_le _⟩
      | cons x xs ihx =>
        intro h
        rw [List.all_cons, Bool.and_eq_true] at h
        obtain ⟨h1, h2⟩ := ih x h.1
        obtain ⟨h3, h4⟩ := ihx h.2
        constructor
        · show (PyData.canLay0 x && PyData.canLayAll0 xs) = true
          rw [h1, h3]
          rfl
        · show max (PyData.depth x) (PyData.depthAll xs) ≤ n
          omega
    intro d h
    cases d with
    | str x => exact ⟨h, Nat.zero_le _⟩
    | list xs =>
      obtain ⟨h1, h2⟩ := all xs h
      refine ⟨h1, ?_⟩
      show PyData.depthAll xs + 1 ≤ n + 1
      omega
    | tuple xs =>
      obtain ⟨h1, h2⟩ := all xs h
      refine ⟨h1, ?_⟩
      show PyData.depthAll xs + 1 ≤ n + 1
      omega
    | dict xs => exact absurd h (by simp [pl])
    | none => exact ⟨rfl, Nat.zero_le _⟩
    | bool b => exact ⟨rfl, Nat.zero_le _⟩
    | int i => exact ⟨rfl, Nat.zero_le _⟩
theorem zct {bb : Bool} {d : D} (n : Nat) (h : pl bb n d = true) (hn : n ≤ 64 := by decide) : SeqAt.shaped d = true := by
  obtain ⟨h1, h2⟩ := vc4 n d h
  unfold SeqAt.shaped
  rw [h1, decide_eq_true (show PyData.depth d ≤ 64 by omega)]
  rfl
theorem qcC {d : D} (n : Nat) (h : pl true n d = true) (hn : n ≤ 64 := by decide) : eqD d d = some true := vcB (zct n h hn)
theorem vdc (bb : Bool) (n : Nat) (r : List Nat) : (jd r).all (pl bb n) = true := by
  rw [List.all_eq_true]
  intro x hx
  obtain ⟨k, _, rfl⟩ := List.mem_map.mp hx
  cases n <;> rfl
section
variable {f g : FS} {t u : FT} {E fa fb fc fd fe : FE} {ρ ρ1 : jc} {o : Option Out} {i : Nat} {v a b : Val} {A : FA} {vs : List Val}
theorem yc4 {x y : Int} (q : E ρ = some (.ok (.s (.int x)))) (h : x = y) (e : ρ.set i (.dat (.int y)) = ρ1) : yc i E ρ = some (.nx ρ1) := by
  subst h
  exact yf q rfl e
theorem zcC {x y : Int} (q : E ρ = some (.ok (.s (.int x)))) (h : x = y) : E ρ = some (.ok (.s (.int y))) := by
  subst h
  exact q
theorem waR {d : D} (q : E ρ = some (.ok v)) (h : v.st = some d) (k : g (ρ.set i (.dat d)) = o) : yb (yc i E) g ρ = o := vc (yf q h rfl) k
theorem kcV {x y : Int} (q : E ρ = some (.ok (.s (.int x)))) (h : x = y) (k : g (ρ.set i (.dat (.int y))) = o) : yb (yc i E) g ρ = o := vc (yc4 q h rfl) k
theorem wbL {f1 f2 : FS} (h : t ρ = some (.ok true)) (k : yb f1 g ρ = o) : yb (qg t f1 f2) g ρ = o := by
  unfold yb at k ⊢
  rw [wg h rfl]
  exact k
theorem vbL {f1 f2 : FS} (h : t ρ = some (.ok false)) (k : yb f2 g ρ = o) : yb (qg t f1 f2) g ρ = o := by
  unfold yb at k ⊢
  rw [kg h rfl]
  exact k
theorem ybL {x y : Int} (ha : fa ρ = some (.ok (.s (.int x)))) (hb : fb ρ = some (.ok (.s (.int y)))) : eG wdh (qa fa (qa fb (ya))) ρ = some (.ok (.s (.int (max x y)))) := by
  refine wa4 (jb ha (jb hb qc)) ?_
  show some (Val.s (PyData.int (if x < y then y else x))) = _
  congr 3
  split <;> omega
theorem xbL {x y : Int} (ha : fa ρ = some (.ok (.s (.int x)))) (hb : fb ρ = some (.ok (.s (.int y)))) : eG zcd (qa fa (qa fb (ya))) ρ = some (.ok (.s (.int (min x y)))) := by
  refine wa4 (jb ha (jb hb qc)) ?_
  show some (Val.s (PyData.int (if y < x then y else x))) = _
  congr 3
  split <;> omega
end
end DL
namespace FN
open PySem PySem.Spec PyProof.Rows L2 DL
noncomputable section
end
end FN
namespace FL
open PySem PySem.Spec PyProof.Rows L2 DL FN
open CG
local macro_rules | `(tactic| walk_at "ev") => `(tactic| first
  | exact zb rfl
  | exact r_b rfl
  | with_reducible assumption
  | exact (show eC _ _ = _ from rfl)
  | ((with_reducible apply jae) <;> first | walk_at "ev" | omega)
  | ((with_reducible apply vk) <;> walk_at "ev")
  | ((with_reducible apply xW) <;> walk_at "ev")
  | ((with_reducible apply xa4) <;> first | walk_at "ev" | exact xaQ (by omega) (by omega) | exact ja4 (by omega) (by omega))
  | ((with_reducible apply kbi) <;> first | walk_at "ev" | omega)
  | ((with_reducible apply vbK) <;> first | walk_at "ev" | omega)
  | ((with_reducible apply vbj) <;> walk_at "ev")
  | ((with_reducible apply qbj) <;> walk_at "ev")
  | ((with_reducible apply ybL) <;> walk_at "ev")
  | ((with_reducible apply xbL) <;> walk_at "ev")
  | ((with_reducible apply wq) <;> first | rfl | walk_at "ev")
  | ((with_reducible apply jbL) <;> first | rfl | walk_at "ev")
  | ((with_reducible apply kaw) <;> first | rfl | walk_at "ev")
  | ((with_reducible apply kaT) <;> first | walk_at "ev" | rfl)
  | ((with_reducible apply qc))
  | ((with_reducible apply jb) <;> walk_at "ev")
  | ((with_reducible apply vN) <;> first | walk_at "ev" | rfl | (simp; done))
  | ((with_reducible apply vn) <;> first | walk_at "ev" | rfl | (simp; done))
  | ((with_reducible apply yv) <;> first | walk_at "ev" | omega)
  | ((with_reducible apply vp) <;> first | walk_at "ev" | omega)
  | ((with_reducible apply jaR) <;> first | walk_at "ev" | omega)
  | ((with_reducible apply zaR) <;> first | walk_at "ev" | omega)
  | ((with_reducible apply qq) <;> first | walk_at "ev" | omega)
  | ((with_reducible apply xv) <;> first | walk_at "ev" | omega)
  | ((with_reducible apply qbq) <;> first | walk_at "ev" | omega)
  | ((with_reducible apply zbq) <;> first | walk_at "ev" | omega)
  | ((with_reducible apply zy) <;> first | walk_at "ev" | omega)
  | ((with_reducible apply vA) <;> first | walk_at "ev" | omega)
  | ((with_reducible apply yZ) <;> first | walk_at "ev" | omega)
  | ((with_reducible apply jE) <;> first | walk_at "ev" | omega)
  | ((with_reducible apply xai) <;> walk_at "ev")
  | ((with_reducible apply qaR) <;> walk_at "ev")
  | ((with_reducible apply xS) <;> walk_at "ev")
  | ((with_reducible apply vu) <;> walk_at "ev")
  | ((with_reducible apply kaQ) <;> walk_at "ev")
  | ((with_reducible apply zbK) <;> walk_at "ev")
  | ((with_reducible apply kad) <;> walk_at "ev"))
local macro_rules | `(tactic| walk_at "set") => `(tactic| ((with_reducible apply waR); walk_at "ev"; rfl; dsimp only [List.set]))
local macro_rules | `(tactic| walk_at "ift") => `(tactic| ((first | with_reducible apply wbL | with_reducible apply wg); walk_at "ev"))
local macro_rules | `(tactic| walk_at "iff") => `(tactic| ((first | with_reducible apply vbL | with_reducible apply kg); walk_at "ev"))
section
variable (a b : List Nat)
end
section
variable (a m : List Nat) (f k : Nat)
end
end FL
namespace DL
open PySem PySem.Spec PyProof.Rows L2
section
variable {f g : FS} {t u : FT} {E fa fb fc fd fe : FE} {ρ ρ1 : jc} {o : Option Out} {i : Nat} {v a b : Val} {A : FA} {vs : List Val}
theorem vaR {x : Bool} (q : E ρ = some (.ok v)) (h : isNone v.d = x) : tV (e2 xaI E (eC .none)) ρ = some (.ok (!x)) := by
  refine kO (kF q rfl ?_) rfl (v := .s (.bool (!x)))
  subst h
  rfl
theorem xc4 {xs : List D} (q : E ρ = some (.ok v)) (h : v = .s (.list xs) ∨ v = .s (.tuple xs) ∨ v = .f xs) : yM E ρ = some (.ok xs) := by
  unfold yM
  rw [q]
  rcases h with rfl | rfl | rfl <;> rfl
def pr (p : Int × Int) : D := .tuple [.int p.1, .int p.2]
end
end DL
namespace FL
open PySem PySem.Spec PyProof.Rows L2 DL FN
open LF (zj)
open CR (kR g HV)
theorem jby {b c : Nat → Nat} {s : Nat} : ∀ {n : Nat}, (∀ k, k < n → b k = c k) → kR b s n = kR c s n
  | 0, _ => rfl
  | n + 1, h => by
    show CR.f (kR b s n ^^^ b n) = CR.f (kR c s n ^^^ c n)
    rw [jby (n := n) fun k hk => h k (by omega), h n (by omega)]
noncomputable def jbk : FS := yc 2 (e2 jV (e2 vF (eV 2) (eC (.int 4))) (e2 yg (eC zX) (e2 jx (eV 2) (eC (.int 15)))))
theorem ycW (s0 s1 s3 : DL.Slot) (s : Nat) : jbk [s0, s1, .dat (.int s), s3] = some (.nx [s0, s1, .dat (.int (g s : Nat)), s3]) := by
  have e1 : ((s : Int) / 16) = ((s / 16 : Nat) : Int) := by omega
  have e2 : Builtin.bitXor ((s : Int) / 16) ((HV.getD (s % 16) 0 : Nat) : Int) = (g s : Nat) := by
    rw [e1, bx]
    rfl
  simp [jbk, yba, bitAnd_m4, ydc, zX, -List.getD_eq_getElem?_getD, e2]
noncomputable def zbN : FS := yb (yc 2 (e2 jV (eV 2) (eV 3))) (yb jbk jbk)
theorem xcW (s0 s1 : DL.Slot) (s b : Nat) : zbN [s0, s1, .dat (.int s), .dat (.int b)] = some (.nx [s0, s1, .dat (.int (g (g (s ^^^ b)) : Nat)), .dat (.int b)]) := by
  simp [zbN, bx, ycW]
theorem xct (pre row : List Nat) (k : Nat) (h : k < 8 * pre.length) : vE (pre ++ row) k = vE pre k := by
  unfold vE
  rw [List.getD_eq_getElem?_getD, List.getD_eq_getElem?_getD, List.getElem?_append_left (by omega)]
theorem wbq (pre row : List Nat) (hr : ∀ b ∈ row, b < 256) : jaa [.int (sumOf pre : Nat), .list (jd row)] = some (.ret (.int (sumOf (pre ++ row) : Nat))) := by
  have e0 : Builtin.bitXor ((sumOf pre : Nat) : Int) 4294967295 = ((kR (vE (pre ++ row)) 4294967295 (8 * (pre.length + 0)) : Nat) : Int) := by
    have q := bx (sumOf pre) 4294967295
    have q2 : (sumOf pre) ^^^ 4294967295 = kR (vE (pre ++ row)) 4294967295 (8 * (pre.length + 0)) := by
      unfold sumOf
      rw [Nat.xor_assoc, Nat.xor_self, Nat.xor_zero, Nat.add_zero]
      exact jby fun k hk => (xct pre row k hk).symm
    rw [q2] at q
    exact q
  obtain ⟨ρ', h1, s3, rfl⟩ := wx (g := gN 3) (ds := jd row) (ρ := [.dat (.int (sumOf pre : Nat)), .dat (.list (jd row)), .dat (.int (kR (vE (pre ++ row)) 4294967295 (8 * (pre.length + 0)) : Nat)), .un]) (body := zbN)
    (fun i ρ => ∃ s3, ρ = [.dat (.int (sumOf pre : Nat)), .dat (.list (jd row)), .dat (.int (kR (vE (pre ++ row)) 4294967295 (8 * (pre.length + i)) : Nat)), s3])
    ⟨_, rfl⟩ (by
      rintro i d ρ hd ⟨s3, rfl⟩
      obtain ⟨hi, rfl⟩ := vce hd
      have hb := hr _ (List.getElem_mem hi)
      refine ⟨_, _, rfl, xcW _ _ _ _, .dat (.int (row[i] : Nat)), ?_⟩
      rw [← Nat.add_assoc, CR.jbe (vE (pre ++ row)) 4294967295 (pre.length + i) row[i] hb (fun j hj => by
        rw [jbN _ _ _ hj]
        congr 2
        rw [List.getD_eq_getElem?_getD, List.getElem?_append_right (by omega)]
        simp [hi])])
  rw [xi] at h1
  have e2 : Builtin.bitXor ((kR (vE (pre ++ row)) 4294967295 (8 * (pre.length + row.length)) : Nat) : Int) 4294967295 = (sumOf (pre ++ row) : Nat) := by
    unfold sumOf
    rw [List.length_append]
    exact bx _ _
  unfold jaa waa
  refine zw ?_
  refine kcV (kF (a := .s (.int (sumOf pre : Nat))) (b := .s (.int 4294967295)) (v := .s (.int (Builtin.bitXor ((sumOf pre : Nat) : Int) 4294967295))) (zb rfl) rfl rfl) e0 ?_
  refine vc (wB (xc4 (zb rfl) (.inl rfl)) h1) ?_
  refine wu (zcC (kF (a := .s (.int (kR (vE (pre ++ row)) 4294967295 (8 * (pre.length + row.length)) : Nat))) (b := .s (.int 4294967295)) (v := .s (.int (Builtin.bitXor ((kR (vE (pre ++ row)) 4294967295 (8 * (pre.length + row.length)) : Nat) : Int) 4294967295))) (zb rfl) rfl rfl) e2)
theorem wbN (r : List Nat) (hr : ∀ x ∈ r, x < 256) : yK [.list (jd r)] = some (.ret (.int (sumOf r : Nat))) := by
  have q := wbq [] r hr
  have e : sumOf [] = 0 := by
    show 4294967295 ^^^ 4294967295 = 0
    exact Nat.xor_self _
  rw [e] at q
  unfold yK va0
  exact zw (wu (jl (jb rfl (jb (zb rfl) qc)) rfl rfl q))
noncomputable def qcb : FS := yb (qg (zB (tV (e2 vO (eV 8) (eG xg (qa (eV 0) (ya))))) (tV (e2 wz (e2 yg (eV 0) (eV 8)) (eC (.int 1))))) (kj 12 (eV 8)) (qh)) (yb (yc 9 (e2 yg (eV 0) (eV 8))) (yb (qD (gT 2 (qe 10 (qe 11 (ju)))) (wc FN.xM 2 (qa (eV 0) (qa (e2 xb (eV 8) (eC (.int 1))) (ya))))) (yb (qg (tV (e2 gNe (jm (eV 0) (ve (eV 11)) (jj)) (wc FN.jD 1 (qa (wc FN.yK 1 (qa (jm (eV 0) (jj) (ve (eV 11))) (ya))) (ya))))) (kj 15 (eV 11)) (qh)) (ji (yF (qa (eV 1) (qa (eV 2) (qa (eV 3) (qa (eV 4) (qa (eV 5) (qa (eV 6) (qa (eV 7) (qa (eV 9) (qa (eV 10) (ya))))))))))))))) 
theorem xcC (r : List Nat) (hr : ∀ x ∈ r, x < 256) (hl : r.length ≤ 100000) (jf ordinal time span a4 : Nat) : ∃ ρ', qcb [.dat (.list (jd r)), .dat (.int (r.getD 0 0 : Nat)), .dat (.int (LF.kh ((r.drop 1).take 4) : Nat)), .dat (.int (LF.kh ((r.drop 5).take 4) : Nat)), .dat (.int (jf : Nat)), .dat (.int (ordinal : Nat)), .dat (.int (time : Nat)), .dat (.int (span : Nat)), .dat (.int (a4 : Nat)), .un, .un, .un] = some (ydi ρ' (LF.vS r jf ordinal time span a4)) := by
  unfold LF.vS qcb
  generalize LF.kh ((r.drop 1).take 4) = xk
  generalize LF.kh ((r.drop 5).take 4) = number
  generalize hk0 : r.getD 0 0 = kind
  by_cases h1 : r.length ≤ a4 ∨ 1 < r.getD a4 0
  · rw [if_pos h1]
    refine ⟨_, jB (wg ?_ (jy (zb rfl)))⟩
    by_cases h2 : r.length ≤ a4
    · exact xS (yZ (zb rfl) (wq (zb rfl) rfl) (by omega))
    · have h3 := h1.resolve_left h2
      exact vu (jE (zb rfl) (wq (zb rfl) rfl) (by omega)) (zy (wM (zb rfl) (zb rfl) (by omega)) rfl (by omega))
  rw [if_neg h1]
  have h2 : a4 < r.length := by
    rcases Nat.lt_or_ge a4 r.length with h | h
    · exact h
    · exact absurd (.inl h) h1
  have h3 : ¬ 1 < r.getD a4 0 := fun e => h1 (.inr e)
  have qb := vbN r (a4 + 1) (by omega) hl
  unfold wcf at qb
  have pre : ∀ {o : Option Out} {g : FS}, g [.dat (.list (jd r)), .dat (.int (kind : Nat)), .dat (.int (xk : Nat)), .dat (.int (number : Nat)), .dat (.int (jf : Nat)), .dat (.int (ordinal : Nat)), .dat (.int (time : Nat)), .dat (.int (span : Nat)), .dat (.int (a4 : Nat)), .dat (.int (r.getD a4 0 : Nat)), .un, .un] = o →
      yb (qg (zB (tV (e2 vO (eV 8) (eG xg (qa (eV 0) (ya))))) (tV (e2 wz (e2 yg (eV 0) (eV 8)) (eC (.int 1))))) (kj 12 (eV 8)) (qh)) (yb (yc 9 (e2 yg (eV 0) (eV 8))) g) [.dat (.list (jd r)), .dat (.int (kind : Nat)), .dat (.int (xk : Nat)), .dat (.int (number : Nat)), .dat (.int (jf : Nat)), .dat (.int (ordinal : Nat)), .dat (.int (time : Nat)), .dat (.int (span : Nat)), .dat (.int (a4 : Nat)), .un, .un, .un] = o := fun {o g} h =>
    vc (kg (vu (jE (zb rfl) (wq (zb rfl) rfl) (by omega)) (vA (wM (zb rfl) (zb rfl) h2) rfl (by omega))) rfl) (vc (yf (wM (zb rfl) (zb rfl) h2) rfl rfl) h)
  cases w1 : LF.rd r (a4 + 1) 1024 with
  | none =>
    rw [w1] at qb
    exact ⟨_, pre (jB (q7 (jK (jb (zb rfl) (jb (wm (j := 1) (zb rfl) rfl) qc)) rfl rfl qb)))⟩
  | some p1 =>
    obtain ⟨size, a5⟩ := p1
    rw [w1] at qb
    dsimp only at qb ⊢
    by_cases h4 : r.length < a5 + size
    · rw [if_pos h4] at qb
      rw [if_pos h4]
      exact ⟨_, pre (jB (q7 (jK (jb (zb rfl) (jb (wm (j := 1) (zb rfl) rfl) qc)) rfl rfl qb)))⟩
    · rw [if_neg h4] at qb
      rw [if_neg h4]
      have cut : ∀ s9 : DL.Slot, e2 gNe (jm (eV 0) (ve (eV 11)) (jj)) (wc FN.jD 1 (qa (wc FN.yK 1 (qa (jm (eV 0) (jj) (ve (eV 11))) (ya))) (ya))) [.dat (.list (jd r)), .dat (.int (kind : Nat)), .dat (.int (xk : Nat)), .dat (.int (number : Nat)), .dat (.int (jf : Nat)), .dat (.int (ordinal : Nat)), .dat (.int (time : Nat)), .dat (.int (span : Nat)), .dat (.int (a4 : Nat)), s9, .dat (.list (jd ((r.drop a5).take size))), .dat (.int ((a5 + size : Nat) : Int))] = some (.ok (.s (.bool (!decide (r.drop (a5 + size) = LF.four (sumOf (r.take (a5 + size)))))))) := fun s9 =>
        jbK (qaU (zb rfl) (.inl rfl) (zb rfl)) (qP (jb (jl (jb (xbK (zb rfl) (.inl rfl) (zb rfl)) qc) rfl rfl (wbN _ (fun x hx => hr x (List.mem_of_mem_take hx)))) qc) rfl rfl (kcW _)) (wcs _ _)
      have un : ∀ {o : Option Out} {g : FS}, g [.dat (.list (jd r)), .dat (.int (kind : Nat)), .dat (.int (xk : Nat)), .dat (.int (number : Nat)), .dat (.int (jf : Nat)), .dat (.int (ordinal : Nat)), .dat (.int (time : Nat)), .dat (.int (span : Nat)), .dat (.int (a4 : Nat)), .dat (.int (r.getD a4 0 : Nat)), .dat (.list (jd ((r.drop a5).take size))), .dat (.int ((a5 + size : Nat) : Int))] = o →
          yb (qD (gT 2 (qe 10 (qe 11 (ju)))) (wc FN.xM 2 (qa (eV 0) (qa (e2 xb (eV 8) (eC (.int 1))) (ya))))) g [.dat (.list (jd r)), .dat (.int (kind : Nat)), .dat (.int (xk : Nat)), .dat (.int (number : Nat)), .dat (.int (jf : Nat)), .dat (.int (ordinal : Nat)), .dat (.int (time : Nat)), .dat (.int (span : Nat)), .dat (.int (a4 : Nat)), .dat (.int (r.getD a4 0 : Nat)), .un, .un] = o := fun {o g} h =>
        vc (yS (jl (jb (zb rfl) (jb (wm (j := 1) (zb rfl) rfl) qc)) rfl rfl qb) rfl rfl) h
      by_cases h5 : r.drop (a5 + size) = LF.four (sumOf (r.take (a5 + size)))
      · rw [if_neg (fun e => e h5)]
        rw [decide_eq_true h5] at cut
        exact ⟨[], pre (un (vc (kg (kO (cut _) rfl) rfl) (wu (vN (jb (zb rfl) (jb (zb rfl) (jb (zb rfl) (jb (zb rfl) (jb (zb rfl) (jb (zb rfl) (jb (zb rfl) (jb (zb rfl) (jb (zb rfl) qc))))))))) rfl (by simp)))))⟩
      · rw [if_pos h5]
        rw [decide_eq_false h5] at cut
        exact ⟨_, pre (un (jB (wg (kO (cut _) rfl) (jy (zb rfl)))))⟩
theorem wbz (r : List Nat) (hr : ∀ x ∈ r, x < 256) (hl : r.length ≤ 100000) : xB [.list (jd r)] = some (xdi (LF.read r)) := by
  unfold LF.read
  unfold xB yaR
  by_cases h0 : r.length = 0 ∨ 4 < r.getD 0 0
  · rw [if_pos h0]
    exact xu (jB (q7 (jK (jb (zb rfl) qc) rfl rfl (wbk r h0))))
  rw [if_neg h0]
  by_cases h5 : r.length < 5
  · rw [if_pos h5]
    exact xu (jB (q7 (jK (jb (zb rfl) qc) rfl rfl (vbk r h0 h5))))
  rw [if_neg h5]
  by_cases h9 : r.length < 9
  · rw [if_pos h9]
    exact xu (jB (q7 (jK (jb (zb rfl) qc) rfl rfl (ybk r h0 h5 h9))))
  rw [if_neg h9]
  have qf := vbz r hr h0 h9
  have qp := ybz r (by omega) hl
  have s1 : qD (gT 3 (qe 1 (qe 2 (qe 3 (ju))))) (wc FN.xq 1 (qa (eV 0) (ya))) [.dat (.list (jd r)), .un, .un, .un, .un, .un, .un, .un, .un, .un, .un, .un] = some (.nx [.dat (.list (jd r)), .dat (.int (r.getD 0 0 : Nat)), .dat (.int (LF.kh ((r.drop 1).take 4) : Nat)), .dat (.int (LF.kh ((r.drop 5).take 4) : Nat)), .un, .un, .un, .un, .un, .un, .un, .un]) :=
    yS (jl (jb (zb rfl) qc) rfl rfl qf) rfl rfl
  unfold ybN at qp
  cases w1 : LF.rd r 9 15 with
  | none =>
    rw [w1] at qp
    exact xu (vc s1 (jB (q7 (jK (jb (zb rfl) qc) rfl rfl qp))))
  | some p1 =>
    obtain ⟨jf, a1⟩ := p1
    rw [w1] at qp
    dsimp only at qp ⊢
    cases w2 : LF.rd r a1 16777215 with
    | none =>
      rw [w2] at qp
      exact xu (vc s1 (jB (q7 (jK (jb (zb rfl) qc) rfl rfl qp))))
    | some p2 =>
      obtain ⟨ordinal, a2⟩ := p2
      rw [w2] at qp
      dsimp only at qp ⊢
      cases w3 : LF.rd r a2 1099511627775 with
      | none =>
        rw [w3] at qp
        exact xu (vc s1 (jB (q7 (jK (jb (zb rfl) qc) rfl rfl qp))))
      | some p3 =>
        obtain ⟨time, a3⟩ := p3
        rw [w3] at qp
        dsimp only at qp ⊢
        cases w4 : LF.rd r a3 16777215 with
        | none =>
          rw [w4] at qp
          exact xu (vc s1 (jB (q7 (jK (jb (zb rfl) qc) rfl rfl qp))))
        | some p4 =>
          obtain ⟨span, a4⟩ := p4
          rw [w4] at qp
          dsimp only at qp ⊢
          obtain ⟨ρ', ht⟩ := xcC r hr hl jf ordinal time span a4
          have s2 : qD (gT 5 (qe 4 (qe 5 (qe 6 (qe 7 (qe 8 (ju))))))) (wc FN.jP 1 (qa (eV 0) (ya))) [.dat (.list (jd r)), .dat (.int (r.getD 0 0 : Nat)), .dat (.int (LF.kh ((r.drop 1).take 4) : Nat)), .dat (.int (LF.kh ((r.drop 5).take 4) : Nat)), .un, .un, .un, .un, .un, .un, .un, .un] = some (.nx [.dat (.list (jd r)), .dat (.int (r.getD 0 0 : Nat)), .dat (.int (LF.kh ((r.drop 1).take 4) : Nat)), .dat (.int (LF.kh ((r.drop 5).take 4) : Nat)), .dat (.int (jf : Nat)), .dat (.int (ordinal : Nat)), .dat (.int (time : Nat)), .dat (.int (span : Nat)), .dat (.int (a4 : Nat)), .un, .un, .un]) :=
            yS (jl (jb (zb rfl) qc) rfl rfl qp) rfl rfl
          have whole := vc s1 (vc s2 ht)
          cases wt : LF.vS r jf ordinal time span a4 with
          | ok l =>
            rw [wt] at whole
            exact zw whole
          | error e =>
            rw [wt] at whole
            exact xu whole
end FL
namespace PL
def nz : List Nat → Nat
  | [] => 0
  | x :: r => if x = 0 then 0 else nz r + 1
theorem qcJ : ∀ (r : List Nat) (i : Nat), i < nz r → r.getD i 0 ≠ 0
  | [], i, h => by simp [nz] at h
  | x :: r, i, h => by
    unfold nz at h
    split at h
    · omega
    · rename_i n
      cases i with
      | zero => exact n
      | succ i => exact qcJ r i (by omega)
theorem kcI : ∀ r : List Nat, nz r < r.length → r.getD (nz r) 0 = 0
  | [], h => by simp [nz] at h
  | x :: r, h => by
    unfold nz at h ⊢
    split at h
    · rename_i e
      rw [if_pos e]
      exact e
    · rename_i n
      rw [if_neg n]
      exact kcI r (by rw [List.length_cons] at h; omega)
def plc (o : Nat) : List Nat → List (Nat × Nat)
  | [] => []
  | x :: r => (if x = 0 ∧ 0 < nz r ∧ nz r < r.length then [(o + 1, o + 1 + nz r)] else []) ++ plc (o + 1) r
theorem xaA (o x : Nat) (r : List Nat) : plc o (x :: r) = (if x = 0 ∧ 0 < nz r ∧ nz r < r.length then [(o + 1, o + 1 + nz r)] else []) ++ plc (o + 1) r := rfl
def kn (o : Nat) : List Nat → List Nat
  | [] => []
  | x :: r => if x = 0 then o :: kn (o + 1) r else kn (o + 1) r
theorem zcc : ∀ (r : List Nat) (o : Nat), (kn o r).head? = if nz r < r.length then some (o + nz r) else none
  | [], o => rfl
  | x :: r, o => by
    unfold kn nz
    split
    · rw [if_pos (by rw [List.length_cons]; omega)]
      rfl
    · rw [zcc r (o + 1)]
      by_cases h : nz r < r.length
      · rw [if_pos h, if_pos (by rw [List.length_cons]; omega)]
        congr 1
        omega
      · rw [if_neg h, if_neg (by rw [List.length_cons]; omega)]
def prs (l : List Nat) : List (Nat × Nat) := ((l.zip (l.drop 1)).filter fun p => decide (p.1 + 1 < p.2)).map fun p => (p.1 + 1, p.2)
theorem zcF (o z : Nat) (l : List Nat) : prs (o :: z :: l) = (if o + 1 < z then [(o + 1, z)] else []) ++ prs (z :: l) := by
  unfold prs
  rw [List.drop_succ_cons, List.drop_zero, List.zip_cons_cons, List.drop_succ_cons, List.drop_zero, List.filter_cons]
  by_cases h : o + 1 < z
  · rw [if_pos h]
    simp [h]
  · rw [if_neg h]
    simp [h]
theorem xbk : ∀ (r : List Nat) (o : Nat), prs (kn o r) = plc o r
  | [], o => rfl
  | x :: r, o => by
    have ih := xbk r (o + 1)
    unfold kn plc
    by_cases h : x = 0
    · rw [if_pos h]
      have hh := zcc r (o + 1)
      cases e : kn (o + 1) r with
      | nil =>
        rw [e] at hh ih
        by_cases hl : nz r < r.length
        · rw [if_pos hl] at hh
          cases hh
        · rw [if_neg (fun q => hl q.2.2), List.nil_append, ← ih]
          rfl
      | cons z l =>
        rw [e] at hh ih
        rw [zcF, ih]
        by_cases hl : nz r < r.length
        · rw [if_pos hl] at hh
          have ez : z = o + 1 + nz r := Option.some.inj hh
          subst ez
          by_cases h0 : 0 < nz r
          · rw [if_pos (by omega), if_pos ⟨h, h0, hl⟩]
          · rw [if_neg (by omega), if_neg (fun q => h0 q.2.1)]
        · rw [if_neg hl] at hh
          cases hh
    · rw [if_neg h, if_neg (fun q => h q.1), List.nil_append]
      exact ih
theorem qc8 {P t : List Nat} (h : ∀ x ∈ P, x ≠ 0) : nz (P ++ 0 :: t) = P.length := by
  induction P with
  | nil => rfl
  | cons x P ih =>
    show nz (x :: (P ++ 0 :: t)) = _
    unfold nz
    rw [if_neg (h x List.mem_cons_self), ih fun y hy => h y (List.mem_cons_of_mem _ hy)]
    rfl
theorem jcE {P t : List Nat} : ∀ (o : Nat), (∀ x ∈ P, x ≠ 0) → plc o (P ++ t) = plc (o + P.length) t := by
  induction P with
  | nil => intro o _; rfl
  | cons x P ih =>
    intro o h
    show plc o (x :: (P ++ t)) = _
    rw [xaA, if_neg (fun q => h x List.mem_cons_self q.1), List.nil_append, ih (o + 1) fun y hy => h y (List.mem_cons_of_mem _ hy), List.length_cons]
    have e : o + 1 + P.length = o + (P.length + 1) := by omega
    rw [e]
section
variable {α : Type} (f : α → List Nat)
def body : List α → List Nat
  | [] => []
  | l :: ls => f l ++ 0 :: body ls
end
end PL
namespace DL
open PySem PySem.Spec PyProof.Rows L2
theorem zcu {f : FS} {n k : Nat} {ds : List D} {d : D} {ρ0 : jc} (e : ds.map .dat ++ List.replicate (k - n) .un = ρ0) (h : f ρ0 = some (.ret d)) : wC n k f ds = some (.ret d) := by
  subst e
  exact zw h
theorem kbk {α : Type} {tt : FT} {fe : FE} {st : D → Option jc} (dat : α → D) (F : α → D) (p : α → Bool) : ∀ {xs : List α}, (∀ x ∈ xs, ∃ ρ, st (dat x) = some ρ ∧ tt ρ = some (.ok (p x)) ∧ (p x = true → ∃ v, fe ρ = some (.ok v) ∧ v.st = some (F x))) → lcL tt fe st (xs.map dat) = some ((xs.filter p).map F)
  | [], _ => rfl
  | x :: xs, h => by
    obtain ⟨ρ, h1, h2, h3⟩ := h x List.mem_cons_self
    have ih := kbk (tt := tt) (fe := fe) (st := st) dat F p (xs := xs) fun y hy => h y (List.mem_cons_of_mem _ hy)
    rw [List.map_cons, List.filter_cons]
    unfold lcL
    rw [h1]
    dsimp only
    rw [h2]
    cases hp : p x with
    | false => exact ih
    | true =>
      obtain ⟨v, h4, h5⟩ := h3 hp
      dsimp only
      rw [h4]
      dsimp only
      rw [h5, ih]
      rfl
theorem waU {α : Type} {vs : List Nat} {st : jc → D → Option jc} {it : FI} {tt : FT} {fe : FE} {ρ : jc} (dat F : α → D) (p : α → Bool) {xs : List α} (h0 : noOwn ρ vs = true) (ha : it ρ = some (.ok (xs.map dat))) (hl : xs.length ≤ 16777216)
    (h : ∀ x ∈ xs, ∃ ρ1, st (ym ρ vs) (dat x) = some ρ1 ∧ tt ρ1 = some (.ok (p x)) ∧ (p x = true → ∃ v, fe ρ1 = some (.ok v) ∧ v.st = some (F x))) : zz vs st it tt fe ρ = some (.ok (.f ((xs.filter p).map F))) := by
  have e : lcL tt fe (st (ym ρ vs)) (xs.map dat) = some ((xs.filter p).map F) := kbk dat F p h
  unfold zz
  rw [if_pos h0, ha]
  dsimp only
  rw [e]
  dsimp only
  rw [if_pos (zp (by
    rw [List.length_map]
    have := List.length_filter_le p xs
    omega))]
end DL
namespace FL
open PySem PySem.Spec PyProof.Rows L2 DL FN
open LF (zj)
open PL
open ST (yr)
local macro_rules | `(tactic| walk_at "ev") => `(tactic| first
  | exact zb rfl
  | exact r_b rfl
  | with_reducible assumption
  | exact (show eC _ _ = _ from rfl)
  | ((with_reducible apply jae) <;> first | walk_at "ev" | omega)
  | ((with_reducible apply vk) <;> walk_at "ev")
  | ((with_reducible apply xW) <;> walk_at "ev")
  | ((with_reducible apply xa4) <;> first | walk_at "ev" | exact xaQ (by omega) (by omega) | exact ja4 (by omega) (by omega))
  | ((with_reducible apply kbi) <;> first | walk_at "ev" | omega)
  | ((with_reducible apply vbK) <;> first | walk_at "ev" | omega)
  | ((with_reducible apply vbj) <;> walk_at "ev")
  | ((with_reducible apply qbj) <;> walk_at "ev")
  | ((with_reducible apply ybL) <;> walk_at "ev")
  | ((with_reducible apply xbL) <;> walk_at "ev")
  | ((with_reducible apply wq) <;> first | rfl | walk_at "ev")
  | ((with_reducible apply jbL) <;> first | rfl | walk_at "ev")
  | ((with_reducible apply kaw) <;> first | rfl | walk_at "ev")
  | ((with_reducible apply kaT) <;> first | walk_at "ev" | rfl)
  | ((with_reducible apply qc))
  | ((with_reducible apply jb) <;> walk_at "ev")
  | ((with_reducible apply vN) <;> first | walk_at "ev" | rfl | (simp; done))
  | ((with_reducible apply vn) <;> first | walk_at "ev" | rfl | (simp; done))
  | ((with_reducible apply yv) <;> first | walk_at "ev" | omega)
  | ((with_reducible apply vp) <;> first | walk_at "ev" | omega)
  | ((with_reducible apply jaR) <;> first | walk_at "ev" | omega)
  | ((with_reducible apply zaR) <;> first | walk_at "ev" | omega)
  | ((with_reducible apply qq) <;> first | walk_at "ev" | omega)
  | ((with_reducible apply xv) <;> first | walk_at "ev" | omega)
  | ((with_reducible apply qbq) <;> first | walk_at "ev" | omega)
  | ((with_reducible apply zbq) <;> first | walk_at "ev" | omega)
  | ((with_reducible apply zy) <;> first | walk_at "ev" | omega)
  | ((with_reducible apply vA) <;> first | walk_at "ev" | omega)
  | ((with_reducible apply yZ) <;> first | walk_at "ev" | omega)
  | ((with_reducible apply jE) <;> first | walk_at "ev" | omega)
  | ((with_reducible apply xai) <;> walk_at "ev")
  | ((with_reducible apply qaR) <;> walk_at "ev")
  | ((with_reducible apply xS) <;> walk_at "ev")
  | ((with_reducible apply vu) <;> walk_at "ev")
  | ((with_reducible apply kaQ) <;> walk_at "ev")
  | ((with_reducible apply zbK) <;> walk_at "ev")
  | ((with_reducible apply kad) <;> walk_at "ev"))
local macro_rules | `(tactic| walk_at "set") => `(tactic| ((with_reducible apply waR); walk_at "ev"; rfl; dsimp only [List.set]))
local macro_rules | `(tactic| walk_at "ift") => `(tactic| ((first | with_reducible apply wbL | with_reducible apply wg); walk_at "ev"))
local macro_rules | `(tactic| walk_at "iff") => `(tactic| ((first | with_reducible apply vbL | with_reducible apply kg); walk_at "ev"))
def prN (p : Nat × Nat) : D := .tuple [.int (p.1 : Nat), .int (p.2 : Nat)]
theorem wbb : ∀ (r : List Nat) (o : Nat), ((r.zipIdx o).filter fun p => decide ((p.1 : Int) = 0)).map (fun p => (PyData.int (p.2 : Nat) : D)) = jd (kn o r)
  | [], _ => rfl
  | x :: r, o => by
    rw [List.zipIdx_cons, List.filter_cons]
    unfold kn
    by_cases h : x = 0
    · rw [if_pos (by simp [h]), if_pos h, List.map_cons, wbb r (o + 1)]
      rfl
    · rw [if_neg (by simp [h]), if_neg h, wbb r (o + 1)]
theorem zcX (r : List Nat) : wN (jd r) = (r.zipIdx 0).map fun p => .tuple [.int (p.2 : Nat), .int (p.1 : Nat)] := by
  unfold wN jd
  rw [List.zipIdx_map, List.map_map]
  rfl
theorem yc5 (a b : List Nat) : ka2 (jd a) (jd b) = (a.zip b).map prN := by
  unfold ka2 jd
  rw [List.zip_map, List.map_map]
  rfl
theorem zbO : ∀ (r : List Nat) (o : Nat), (kn o r).length ≤ r.length
  | [], _ => Nat.le_refl _
  | x :: r, o => by
    have := zbO r (o + 1)
    unfold kn
    split
    · rw [List.length_cons, List.length_cons]
      omega
    · rw [List.length_cons]
      omega
theorem yct (r : List Nat) (hl : r.length ≤ 210000) : qaj [.list (jd r)] = some (.retF ((plc 0 r).map prN)) := by
  have c1 : zz [2, 3] (stT [2, 3]) (wa2 (qa (eV 0) (ya))) (tV (e2 qu (eV 3) (eC (.int 0)))) (eV 2) [.dat (.list (jd r)), .un, .un, .un, .un, .un] = some (.ok (.f (jd (kn 0 r)))) := by
    have q := waU (α := Nat × Nat) (vs := [2, 3]) (st := stT [2, 3]) (it := wa2 (qa (eV 0) (ya))) (tt := tV (e2 qu (eV 3) (eC (.int 0)))) (fe := eV 2) (ρ := [.dat (.list (jd r)), .un, .un, .un, .un, .un]) (fun p => .tuple [.int (p.2 : Nat), .int (p.1 : Nat)]) (fun p => .int (p.2 : Nat)) (fun p => decide ((p.1 : Int) = 0)) (xs := r.zipIdx 0) rfl (by rw [← zcX]; rfl) (by rw [List.length_zipIdx]; omega) (fun p _ => ⟨_, rfl, ybK (zb rfl) rfl, fun _ => ⟨_, zb rfl, rfl⟩⟩)
    rw [q, wbb]
  have zl := zbO r 0
  have c2 : zz [4, 5] (stT [4, 5]) (waT (qa (eV 1) (qa (jm (eV 1) (ve (eC (.int 1))) (jj)) (ya)))) (tV (e2 jz (e2 xb (eV 4) (eC (.int 1))) (eV 5))) (yF (qa (e2 xb (eV 4) (eC (.int 1))) (qa (eV 5) (ya)))) [.dat (.list (jd r)), .dat (.list (jd (kn 0 r))), .un, .un, .un, .un] = some (.ok (.f ((plc 0 r).map prN))) := by
    have it : waT (qa (eV 1) (qa (jm (eV 1) (ve (eC (.int 1))) (jj)) (ya))) [.dat (.list (jd r)), .dat (.list (jd (kn 0 r))), .un, .un, .un, .un] = some (.ok (((kn 0 r).zip ((kn 0 r).drop 1)).map prN)) := by
      have q := jb (A := qa (jm (eV 1) (ve (eC (.int 1))) (jj)) (ya)) (E := eV 1) (ρ := [.dat (.list (jd r)), .dat (.list (jd (kn 0 r))), .un, .un, .un, .un]) (zb rfl) (jb (qaU (r := kn 0 r) (i := 1) (zb rfl) (.inl rfl) rfl) qc)
      rw [← yc5]
      unfold waT
      rw [q]
      rfl
    have q := waU (α := Nat × Nat) (vs := [4, 5]) (st := stT [4, 5]) (it := waT (qa (eV 1) (qa (jm (eV 1) (ve (eC (.int 1))) (jj)) (ya)))) (tt := tV (e2 jz (e2 xb (eV 4) (eC (.int 1))) (eV 5))) (fe := yF (qa (e2 xb (eV 4) (eC (.int 1))) (qa (eV 5) (ya)))) (ρ := [.dat (.list (jd r)), .dat (.list (jd (kn 0 r))), .un, .un, .un, .un]) prN (fun p => prN (p.1 + 1, p.2)) (fun p => decide (p.1 + 1 < p.2)) (xs := (kn 0 r).zip ((kn 0 r).drop 1)) rfl it (by
      rw [List.length_zip]
      omega) (fun p _ => ⟨_, rfl, (xce (vk (zb rfl) rfl) (zb rfl)).trans (congrArg (fun b => some (Except.ok b)) (decide_eq_decide.mpr (by omega))), fun _ => ⟨_, vN (jb (vk (zb rfl) rfl) (jb (zb rfl) qc)) rfl (by show 2 ≤ 16777216; decide), rfl⟩⟩)
    rw [q, ← xbk]
    unfold prs
    rw [List.map_map]
    rfl
  unfold qaj vaU
  refine yai ?_
  refine vc (ρ1 := [.dat (.list (jd r)), .dat (.list (jd (kn 0 r))), .un, .un, .un, .un]) (yf c1 rfl rfl) ?_
  exact ybi c2
end FL
namespace FL
open PySem PySem.Spec PyProof.Rows L2 DL FN
open LF (zj)
open PL
open ST (yr)
local macro_rules | `(tactic| walk_at "ev") => `(tactic| first
  | exact zb rfl
  | exact r_b rfl
  | with_reducible assumption
  | exact (show eC _ _ = _ from rfl)
  | ((with_reducible apply jae) <;> first | walk_at "ev" | omega)
  | ((with_reducible apply vk) <;> walk_at "ev")
  | ((with_reducible apply xW) <;> walk_at "ev")
  | ((with_reducible apply xa4) <;> first | walk_at "ev" | exact xaQ (by omega) (by omega) | exact ja4 (by omega) (by omega))
  | ((with_reducible apply kbi) <;> first | walk_at "ev" | omega)
  | ((with_reducible apply vbK) <;> first | walk_at "ev" | omega)
  | ((with_reducible apply vbj) <;> walk_at "ev")
  | ((with_reducible apply qbj) <;> walk_at "ev")
  | ((with_reducible apply ybL) <;> walk_at "ev")
  | ((with_reducible apply xbL) <;> walk_at "ev")
  | ((with_reducible apply wq) <;> first | rfl | walk_at "ev")
  | ((with_reducible apply jbL) <;> first | rfl | walk_at "ev")
  | ((with_reducible apply kaw) <;> first | rfl | walk_at "ev")
  | ((with_reducible apply kaT) <;> first | walk_at "ev" | rfl)
  | ((with_reducible apply qc))
  | ((with_reducible apply jb) <;> walk_at "ev")
  | ((with_reducible apply vN) <;> first | walk_at "ev" | rfl | (simp; done))
  | ((with_reducible apply vn) <;> first | walk_at "ev" | rfl | (simp; done))
  | ((with_reducible apply yv) <;> first | walk_at "ev" | omega)
  | ((with_reducible apply vp) <;> first | walk_at "ev" | omega)
  | ((with_reducible apply jaR) <;> first | walk_at "ev" | omega)
  | ((with_reducible apply zaR) <;> first | walk_at "ev" | omega)
  | ((with_reducible apply qq) <;> first | walk_at "ev" | omega)
  | ((with_reducible apply xv) <;> first | walk_at "ev" | omega)
  | ((with_reducible apply qbq) <;> first | walk_at "ev" | omega)
  | ((with_reducible apply zbq) <;> first | walk_at "ev" | omega)
  | ((with_reducible apply zy) <;> first | walk_at "ev" | omega)
  | ((with_reducible apply vA) <;> first | walk_at "ev" | omega)
  | ((with_reducible apply yZ) <;> first | walk_at "ev" | omega)
  | ((with_reducible apply jE) <;> first | walk_at "ev" | omega)
  | ((with_reducible apply xai) <;> walk_at "ev")
  | ((with_reducible apply qaR) <;> walk_at "ev")
  | ((with_reducible apply xS) <;> walk_at "ev")
  | ((with_reducible apply vu) <;> walk_at "ev")
  | ((with_reducible apply kaQ) <;> walk_at "ev")
  | ((with_reducible apply zbK) <;> walk_at "ev")
  | ((with_reducible apply kad) <;> walk_at "ev"))
local macro_rules | `(tactic| walk_at "set") => `(tactic| ((with_reducible apply waR); walk_at "ev"; rfl; dsimp only [List.set]))
local macro_rules | `(tactic| walk_at "ift") => `(tactic| ((first | with_reducible apply wbL | with_reducible apply wg); walk_at "ev"))
local macro_rules | `(tactic| walk_at "iff") => `(tactic| ((first | with_reducible apply vbL | with_reducible apply kg); walk_at "ev"))
theorem qcE (row : List Nat) (h : ∀ x ∈ row, x < 256) : (yr row).length ≤ 2 * row.length + 2 ∧ yr row ≠ [] ∧ (∀ x ∈ yr row, 0 < x ∧ x < 256) ∧ (row.length ≤ 10000 → xp [.list (jd (yr row))] = some (.retF (jd row))) := by
  obtain ⟨bs, l, e1, e2, hok, hlt⟩ := ST.blocks row h
  have hel := ST.zZ (bs ++ [l]) hok
  have hfl := ST.kcS (bs ++ [l]) hok
  have hpos := ST.xbn hok
  have hle := ST.xaP (bs ++ [l])
  rw [← e1] at hel hpos hle
  rw [← e2] at hel hfl
  rw [List.length_append, List.length_singleton] at hel hfl
  rw [List.length_append, List.length_singleton] at hle
  refine ⟨by omega, fun z => by rw [z] at hle; simp at hle, hpos, fun hr => ?_⟩
  have q := xbj bs l hok hlt (by rw [← e1]; omega)
  rw [← e1, ← e2, List.dropLast_concat] at q
  exact q
def sw (l : zj) : List Nat := yr l.wy
theorem qcD {l : zj} (h : l.Ok) : (sw l).length ≤ 2500 ∧ sw l ≠ [] ∧ (∀ x ∈ sw l, x ≠ 0) ∧ (∀ x ∈ sw l, x < 256) ∧ xp [.list (jd (sw l))] = some (.retF (jd l.wy)) ∧ xbq [.list (jd l.wy)] = some (.retF (jd (sw l))) ∧ vy [.list (jd l.wy)] = some (.ret (.list (jd (sw l)))) := by
  have hw := qcg h
  have hl := (vbZ h).1
  obtain ⟨a1, a2, a3, a4⟩ := qcE l.wy hw
  refine ⟨?_, a2, fun x hx => ?_, fun x hx => (a3 x hx).2, a4 (by omega), jcD _ hw (by omega), kbq _ hw (by omega)⟩
  · show (yr l.wy).length ≤ 2500
    omega
  · have := (a3 x hx).1
    omega
theorem xdc (n : Nat) (l : zj) : pl true (n + 2) (lfD l) = true := by
  have e : ∀ i : Int, pl true (n + 1) (.int i) = true := fun i => rfl
  show List.all (lfL l) (pl true (n + 1)) = true
  unfold lfL
  simp only [List.all_cons, List.all_nil, e, Bool.true_and, Bool.and_true]
  exact vdc true n l.body
end FL
namespace K06
end K06
namespace FL
open PySem PySem.Spec PyProof.Rows L2 DL FN
open LF (zj)
open PL
theorem wcW {a b : List Nat} (h : jd a = jd b) : a = b := by
  unfold jd at h
  exact List.map_inj_right (fun x y e => by injection e with e; exact Int.ofNat.inj e) |>.mp h
open Classical in
noncomputable def ybM (r : List Nat) : Option (List Nat) := if h : ∃ w : List Nat, xp [.list (jd r)] = some (.retF (jd w)) then some (Classical.choose h) else none
theorem wa5 {r w : List Nat} (h : xp [.list (jd r)] = some (.retF (jd w))) : ybM r = some w := by
  have hh : ∃ w : List Nat, xp [.list (jd r)] = some (.retF (jd w)) := ⟨w, h⟩
  unfold ybM
  rw [dif_pos hh]
  have q := h.symm.trans (Classical.choose_spec hh)
  injection q with q
  injection q with q
  rw [← wcW q]
theorem va5 {r : List Nat} {c : Nat} {j : Int} (h : xp [.list (jd r)] = some (.exc c j)) : ybM r = none := by
  unfold ybM
  rw [dif_neg]
  rintro ⟨w, z⟩
  rw [h] at z
  cases z
noncomputable def zbg (r : List Nat) : Option zj := (ybM r).bind fun w => match LF.read w with
  | .ok l => some l
  | .error _ => none
noncomputable def xaq (r : List Nat) (p : Nat × Nat) : Option (Nat × Nat × zj) := (zbg ((r.drop p.1).take (p.2 - p.1))).map fun l => (p.1, p.2, l)
noncomputable def xV (r : List Nat) : List (Nat × Nat × zj) := (plc 0 r).filterMap (xaq r)
def y5 (x : Nat × Nat × zj) : D := .tuple [.int (x.1 : Nat), .int (x.2.1 : Nat), lfD x.2.2]
theorem xbM : ∀ (r : List Nat) (o : Nat) (p : Nat × Nat), p ∈ plc o r → ∃ A P B : List Nat, r = A ++ 0 :: (P ++ 0 :: B) ∧ p = (o + A.length + 1, o + A.length + 1 + P.length) ∧ P ≠ [] ∧ ∀ x ∈ P, x ≠ 0
  | [], _, _, h => nomatch h
  | x :: r, o, p, h => by
    rw [xaA, List.mem_append] at h
    rcases h with h | h
    · split at h
      · rename_i hc
        obtain ⟨rfl, h0, h1⟩ := hc
        rw [List.mem_singleton] at h
        subst h
        have e0 := kcI r h1
        have eg : r.getD (nz r) 0 = r[nz r] := by
          rw [List.getD_eq_getElem?_getD, List.getElem?_eq_getElem h1]
          rfl
        refine ⟨[], r.take (nz r), r.drop (nz r + 1), ?_, ?_, ?_, fun x hx => ?_⟩
        · rw [List.nil_append]
          congr 1
          have : r.drop (nz r) = 0 :: r.drop (nz r + 1) := by
            rw [List.drop_eq_getElem_cons h1, ← eg, e0]
          rw [← this, List.take_append_drop]
        · rw [List.length_take, Nat.min_eq_left (by omega)]
          rfl
        · intro z
          have := congrArg List.length z
          rw [List.length_take, Nat.min_eq_left (by omega)] at this
          simp at this
          omega
        · obtain ⟨i, hi, rfl⟩ := List.mem_iff_getElem.mp hx
          have hi2 : i < nz r := by
            rw [List.length_take] at hi
            omega
          have := qcJ r i hi2
          rw [List.getD_eq_getElem?_getD, List.getElem?_eq_getElem (by omega)] at this
          rw [List.getElem_take]
          exact this
      · cases h
    · obtain ⟨A, P, B, h1, h2, h3, h4⟩ := xbM r (o + 1) p h
      refine ⟨x :: A, P, B, by rw [h1]; rfl, ?_, h3, h4⟩
      rw [h2, List.length_cons]
      congr 1 <;> omega
theorem yaK {r : List Nat} (hb : ∀ x ∈ r, x < 256) {p : Nat × Nat} (h : p ∈ plc 0 r) : p.1 < p.2 ∧ p.2 < r.length ∧ (r.drop p.1).take (p.2 - p.1) ≠ [] ∧ (∀ x ∈ (r.drop p.1).take (p.2 - p.1), 0 < x ∧ x < 256) ∧ ((r.drop p.1).take (p.2 - p.1)).length = p.2 - p.1 := by
  obtain ⟨A, P, B, h1, rfl, h3, h4⟩ := xbM r 0 p h
  have hl : 0 < P.length := List.length_pos_iff.mpr h3
  have e : (r.drop (0 + A.length + 1)).take (0 + A.length + 1 + P.length - (0 + A.length + 1)) = P := by
    rw [show 0 + A.length + 1 + P.length - (0 + A.length + 1) = P.length by omega, show 0 + A.length + 1 = A.length + 1 by omega, h1, ← List.drop_drop, List.drop_left, List.drop_succ_cons, List.drop_zero, List.take_left]
  dsimp only
  rw [e]
  refine ⟨by omega, ?_, h3, fun x hx => ⟨Nat.pos_of_ne_zero (h4 x hx), hb x ?_⟩, by omega⟩
  · rw [h1]
    simp only [List.length_append, List.length_cons]
    omega
  · rw [h1]
    simp [hx]
theorem vcC {w : List Nat} {c j : Nat} (h : LF.read w = .error (c, j)) : 5 ≤ c ∧ c ≤ 15 := by
  unfold LF.read at h
  split at h
  · cases h; decide
  split at h
  · cases h; decide
  split at h
  · cases h; decide
  split at h
  · cases h; decide
  split at h
  · cases h; decide
  split at h
  · cases h; decide
  split at h
  · cases h; decide
  unfold LF.vS at h
  split at h
  · cases h; decide
  split at h
  · cases h; decide
  split at h
  · cases h; decide
  split at h
  · cases h; decide
  cases h
theorem xca {w : List Nat} {l : zj} (hw : ∀ x ∈ w, x < 256) (h : LF.read w = .ok l) : l.body.length < w.length := by
  obtain ⟨_, h2⟩ := LF.vcW hw h
  rw [← h2]
  unfold zj.wy zj.fields
  simp only [List.length_append, List.length_cons]
  omega
noncomputable def jcf : HF := qaK (mxL [(1, true), (2, true), (3, true), (4, true), (5, true), (6, true), (7, true), (8, true), (9, true), (10, true), (11, true), (12, true), (13, true), (14, true), (15, true)]) (fCt) (ybG)
theorem kca {c : Nat} (h1 : 4 ≤ c) (h2 : c ≤ 15) (j : Int) (ρ : jc) : jcf c j ρ = some (.ct ρ) := by
  have : c = 4 ∨ c = 5 ∨ c = 6 ∨ c = 7 ∨ c = 8 ∨ c = 9 ∨ c = 10 ∨ c = 11 ∨ c = 12 ∨ c = 13 ∨ c = 14 ∨ c = 15 := by omega
  rcases this with rfl | rfl | rfl | rfl | rfl | rfl | rfl | rfl | rfl | rfl | rfl | rfl <;> rfl
noncomputable def kbM : FA := qa (wc FN.xp 1 (qa (jm (eV 0) (ve (eV 2)) (ve (eV 3))) (ya))) (ya)
theorem ycC (r : List Nat) (hb : ∀ x ∈ r, x < 256) (hl : r.length ≤ 100000) {p : Nat × Nat} (hp : p ∈ plc 0 r) (R : Addr) (s2 s3 : DL.Slot) (acc : List D) (ha : acc.length ≤ 1000000) :
    qce 8 1 4 2 3 (gT 2 (qe 2 (qe 3 (ju)))) kbM FN.xB jcf (prN p) [.dat (.list (jd r)), .pin R, s2, s3, .un] acc = some ([.dat (.list (jd r)), .pin R, .dat (.int (p.1 : Nat)), .dat (.int (p.2 : Nat)), .un], acc ++ ((xaq r p).map y5).toList) := by
  obtain ⟨p1, p2, p3, p4, p5⟩ := yaK hb hp
  unfold qce
  have hg : gT 2 (qe 2 (qe 3 (ju))) (prN p) [.dat (.list (jd r)), .pin R, s2, s3, .un] = some [.dat (.list (jd r)), .pin R, .dat (.int (p.1 : Nat)), .dat (.int (p.2 : Nat)), .un] := rfl
  rw [hg]
  refine (if_pos ⟨⟨rfl, rfl⟩, rfl⟩).trans ?_
  have hsl := zac (E := eV 0) (F := eV 2) (G := eV 3) (ρ := [.dat (.list (jd r)), .pin R, .dat (.int (p.1 : Nat)), .dat (.int (p.2 : Nat)), .un]) (r := r) (i := p.1) (j := p.2) (zb rfl) (.inl rfl) (zb rfl) (zb rfl) (by omega) (by omega)
  unfold xaq zbg
  generalize (r.drop p.1).take (p.2 - p.1) = zaa at *
  rcases qbg zaa p4 p3 (by omega) with ⟨j, u1, _⟩ | ⟨w, w1, w2, u1, _⟩
  · have e : kbM [.dat (.list (jd r)), .pin R, .dat (.int (p.1 : Nat)), .dat (.int (p.2 : Nat)), .un] = some (.error (4, j)) := wcV (jK (jb hsl qc) rfl rfl u1)
    rw [e, va5 u1]
    dsimp only
    rw [if_pos (kca (by decide) (by decide) _ _)]
    show some (_, acc) = some (_, acc ++ [])
    rw [List.append_nil]
  · have e : kbM [.dat (.list (jd r)), .pin R, .dat (.int (p.1 : Nat)), .dat (.int (p.2 : Nat)), .un] = some (.ok [.f (jd w)]) := jb (qP (jb hsl qc) rfl rfl u1) qc
    rw [e, wa5 u1]
    dsimp only
    rw [if_pos (va4 w), wbz w w1 (by omega)]
    show _ = some (_, acc ++ (((match LF.read w with
      | .ok l => some l
      | .error _ => none).map fun l => (p.1, p.2, l)).map y5).toList)
    cases hrd : LF.read w with
    | error z =>
      obtain ⟨c, k⟩ := z
      obtain ⟨c1, c2⟩ := vcC hrd
      refine (if_pos (kca (by omega) c2 _ _)).trans ?_
      show some (_, acc) = some (_, acc ++ [])
      rw [List.append_nil]
    | ok l =>
      have hbl := xca w1 hrd
      show (if (jd l.body).length < (jd w).length ∧ yo (acc.length + 1) = true then _ else _) = _
      rw [if_pos ⟨by rw [xi, xi]; exact hbl, zp (by omega)⟩]
      rfl
theorem qbN (r : List Nat) (hb : ∀ x ∈ r, x < 256) (hl : r.length ≤ 100000) (R : Addr) : ∀ (ps : List (Nat × Nat)) (s2 s3 : DL.Slot) (acc : List D), (∀ p ∈ ps, p ∈ plc 0 r) → acc.length + ps.length ≤ 1000000 →
    waK 8 1 4 2 3 (gT 2 (qe 2 (qe 3 (ju)))) kbM FN.xB jcf (ps.map prN) [.dat (.list (jd r)), .pin R, s2, s3, .un] acc = some (acc ++ (ps.filterMap (xaq r)).map y5)
  | [], _, _, acc, _, _ => by
    show some acc = _
    rw [List.filterMap_nil, List.map_nil, List.append_nil]
  | p :: ps, s2, s3, acc, h, hn => by
    rw [List.length_cons] at hn
    rw [List.map_cons]
    unfold waK
    rw [ycC r hb hl (h p List.mem_cons_self) R s2 s3 acc (by omega)]
    show waK _ _ _ _ _ _ _ _ _ _ _ _ = _
    have hlen : ((xaq r p).map y5).toList.length ≤ 1 := by
      cases xaq r p <;> simp
    rw [qbN r hb hl R ps _ _ _ (fun q hq => h q (List.mem_cons_of_mem _ hq)) (by rw [List.length_append]; omega), List.append_assoc]
    congr 2
    rw [List.filterMap_cons]
    cases xaq r p <;> rfl
theorem jbq : ∀ (r : List Nat) (o : Nat), (plc o r).length ≤ r.length
  | [], _ => Nat.le_refl _
  | x :: r, o => by
    have := jbq r (o + 1)
    rw [xaA, List.length_append, List.length_cons]
    split
    · rw [List.length_singleton]; omega
    · rw [List.length_nil]; omega
theorem zbk (r : List Nat) (hb : ∀ x ∈ r, x < 256) (hl : r.length ≤ 100000) : zap [.list (jd r)] = some ((xV r).map y5) := by
  unfold zap wac
  show ybJ 8 1 4 2 3 (jg (ya)) (yM (wc FN.qaj 1 (qa (eV 0) (ya)))) (gT 2 (qe 2 (qe 3 (ju)))) kbM FN.xB jcf [.dat (.list (jd r)), .un, .un, .un, .un] = _
  unfold ybJ
  refine (if_pos (by rfl)).trans ?_
  rw [vn qc rfl (by decide)]
  refine zcr fun R => ?_
  have hp := xbi (qP (n := 1) (ρ := [.dat (.list (jd r)), .pin R, .un, .un, .un]) (jb (E := eV 0) (zb rfl) qc) rfl rfl (yct r (by omega)))
  have e : yM (wc FN.qaj 1 (qa (eV 0) (ya))) ([.dat (.list (jd r)), .un, .un, .un, .un].set 1 (.pin R)) = some (.ok ((plc 0 r).map prN)) := hp
  rw [e]
  have := jbq r 0
  exact qbN r hb hl R (plc 0 r) .un .un [] (fun p hp => hp) (by simp; omega)
theorem zby (r : List Nat) (hb : ∀ x ∈ r, x < 256) (hl : r.length ≤ 100000) : vac [.list (jd r)] = some (.retF ((xV r).map y5)) := by
  unfold vac tfD
  rw [zbk r hb hl]
  rfl
theorem qc5 : ∀ (r : List Nat) (o : Nat), (r.zipIdx o).filter (fun p => decide (p.1 = 0)) = ((List.range r.length).map fun k => (r.getD k 0, o + k)).filter (fun p => decide (p.1 = 0)) := fun r o => by
  congr 1
  refine List.ext_getElem (by simp) fun i h1 h2 => ?_
  rw [List.getElem_zipIdx, List.getElem_map, List.getElem_range, List.getD_eq_getElem?_getD, List.getElem?_eq_getElem (by simpa using h1)]
  rfl
theorem kcC (r : List Nat) : ((List.range r.length).filter fun k => decide (r.getD k 0 = 0)).map (fun k : Nat => (PyData.int (k : Nat) : D)) = jd (kn 0 r) := by
  rw [← wbb r 0]
  have e : (fun p : Nat × Nat => decide ((p.1 : Int) = 0)) = fun p => decide (p.1 = 0) := by
    funext p
    exact decide_eq_decide.mpr (by omega)
  rw [e, qc5 r 0, List.filter_map, List.map_map]
  simp only [Function.comp_def, Nat.zero_add]
noncomputable def xaK (r : List Nat) (p : Nat × Nat) : Option (Nat × Nat × zj) := if p.1 + 1 < p.2 then xaq r (p.1 + 1, p.2) else none
theorem kct (r : List Nat) : xV r = ((kn 0 r).zip ((kn 0 r).drop 1)).filterMap (xaK r) := by
  unfold xV
  rw [← xbk]
  unfold prs
  rw [List.filterMap_map]
  generalize (kn 0 r).zip ((kn 0 r).drop 1) = l
  induction l with
  | nil => rfl
  | cons p l ih =>
    rw [List.filter_cons, List.filterMap_cons]
    unfold xaK at ih ⊢
    by_cases h : p.1 + 1 < p.2
    · rw [if_pos (decide_eq_true h), List.filterMap_cons, ih]
      simp only [Function.comp, if_pos h]
    · rw [if_neg (by simp [h]), ih, if_neg h]
noncomputable def kbN : FS := yb (yc 4 (e2 xb (e2 yg (eV 2) (eV 3)) (eC (.int 1)))) (yb (yc 5 (e2 yg (eV 2) (e2 xb (eV 3) (eC (.int 1))))) (qg (tV (e2 jz (eV 4) (eV 5))) (yb (yc 6 (wc FN.yq 1 (qa (jm (eV 0) (ve (eV 4)) (ve (eV 5))) (ya)))) (qg (tV (e2 xaI (eV 6) (eC .none))) (yb (yc 7 (wc FN.zP 1 (qa (eV 6) (ya)))) (qg (tV (e2 xaI (eV 7) (eC .none))) (xF 1 (yF (qa (eV 4) (qa (eV 5) (qa (eV 7) (ya)))))) (qh))) (qh))) (qh)))
theorem vaR {fa fb : FE} {ρ : jc} {a : D} (ha : fa ρ = some (.ok (.s a))) (hb : fb ρ = some (.ok (.s .none))) : tV (e2 xaI fa fb) ρ = some (.ok (!isNone a)) := kO (kF ha hb rfl) rfl
theorem qcX (r : List Nat) (hb : ∀ x ∈ r, x < 256) (hl : r.length ≤ 100000) (k z1 z2 : Nat) (h1 : (kn 0 r)[k]? = some z1) (h2 : (kn 0 r)[k + 1]? = some z2) (hp : z1 + 1 < z2 → (z1 + 1, z2) ∈ plc 0 r) (acc : List D) (ha : acc.length ≤ 1000000) (s4 s5 s6 s7 : DL.Slot) :
    ∃ t4 t5 t6 t7 : DL.Slot, kbN [.dat (.list (jd r)), .own acc, .dat (.list (jd (kn 0 r))), .dat (.int (k : Nat)), s4, s5, s6, s7] = some (.nx [.dat (.list (jd r)), .own (acc ++ ((xaK r (z1, z2)).map y5).toList), .dat (.list (jd (kn 0 r))), .dat (.int (k : Nat)), t4, t5, t6, t7]) := by
  have at1 : atI (jd (kn 0 r)) (k : Nat) = some (.int (z1 : Nat)) := by
    obtain ⟨hk, e⟩ := List.getElem?_eq_some_iff.mp h1
    rw [yao hk, e]
  have at2 : atI (jd (kn 0 r)) ((k + 1 : Nat) : Int) = some (.int (z2 : Nat)) := by
    obtain ⟨hk, e⟩ := List.getElem?_eq_some_iff.mp h2
    rw [yao hk, e]
  unfold kbN xaK
  have wF : yc 4 (e2 xb (e2 yg (eV 2) (eV 3)) (eC (.int 1))) [.dat (.list (jd r)), .own acc, .dat (.list (jd (kn 0 r))), .dat (.int (k : Nat)), s4, s5, s6, s7] = some (.nx [.dat (.list (jd r)), .own acc, .dat (.list (jd (kn 0 r))), .dat (.int (k : Nat)), .dat (.int ((z1 + 1 : Nat) : Int)), s5, s6, s7]) := yf (wm (ka4 (zb rfl) (zb rfl) at1) rfl) rfl rfl
  have st2 : yc 5 (e2 yg (eV 2) (e2 xb (eV 3) (eC (.int 1)))) [.dat (.list (jd r)), .own acc, .dat (.list (jd (kn 0 r))), .dat (.int (k : Nat)), .dat (.int ((z1 + 1 : Nat) : Int)), s5, s6, s7] = some (.nx [.dat (.list (jd r)), .own acc, .dat (.list (jd (kn 0 r))), .dat (.int (k : Nat)), .dat (.int ((z1 + 1 : Nat) : Int)), .dat (.int (z2 : Nat)), s6, s7]) := yf (ka4 (zb rfl) (wm (zb rfl) rfl) at2) rfl rfl
  by_cases hlt : z1 + 1 < z2
  · rw [if_pos hlt]
    obtain ⟨p1, p2, p3, p4, p5⟩ := yaK hb (hp hlt)
    dsimp only at p1 p2 p3 p4 p5
    have hsl := zac (E := eV 0) (F := eV 4) (G := eV 5) (ρ := [.dat (.list (jd r)), .own acc, .dat (.list (jd (kn 0 r))), .dat (.int (k : Nat)), .dat (.int ((z1 + 1 : Nat) : Int)), .dat (.int (z2 : Nat)), s6, s7]) (r := r) (i := z1 + 1) (j := z2) (zb rfl) (.inl rfl) (zb rfl) (zb rfl) (by omega) (by omega)
    unfold xaq zbg
    dsimp only
    generalize (r.drop (z1 + 1)).take (z2 - (z1 + 1)) = zaa at *
    rcases qbg zaa p4 p3 (by omega) with ⟨j, u1, u2⟩ | ⟨w, w1, w2, u1, u2⟩
    · rw [va5 u1]
      refine ⟨.dat (.int ((z1 + 1 : Nat) : Int)), .dat (.int (z2 : Nat)), .dat .none, s7, vc wF (vc st2 (wg (qq (zb rfl) (zb rfl) (by omega)) (vc (yf (jl (jb hsl qc) rfl rfl u2) rfl rfl) (kg (by exact vaR (a := .none) (zb rfl) rfl) ?_))))⟩
      show some (Out.nx [_, .own acc, _, _, _, _, _, _]) = some (Out.nx [_, .own (acc ++ []), _, _, _, _, _, _])
      rw [List.append_nil]
    · rw [wa5 u1]
      dsimp only [Option.bind_some]
      have q := zcf w w1 (by omega)
      cases hrd : LF.read w with
      | error z =>
        rw [hrd] at q
        refine ⟨.dat (.int ((z1 + 1 : Nat) : Int)), .dat (.int (z2 : Nat)), .dat (.list (jd w)), .dat (kbj (.error z)), vc wF (vc st2 (wg (qq (zb rfl) (zb rfl) (by omega)) (vc (yf (qP (jb hsl qc) rfl rfl u2) rfl rfl) (wg (by exact vaR (a := .list (jd w)) (zb rfl) rfl) (vc (yf (jl (jb (zb rfl) qc) rfl rfl q) rfl rfl) (kg (by exact vaR (a := .none) (zb rfl) rfl) ?_))))))⟩
        show some (Out.nx [_, .own acc, _, _, _, _, _, _]) = some (Out.nx [_, .own (acc ++ []), _, _, _, _, _, _])
        rw [List.append_nil]
      | ok l =>
        rw [hrd] at q
        refine ⟨.dat (.int ((z1 + 1 : Nat) : Int)), .dat (.int (z2 : Nat)), .dat (.list (jd w)), .dat (lfD l), vc wF (vc st2 (wg (qq (zb rfl) (zb rfl) (by omega)) (vc (yf (qP (jb hsl qc) rfl rfl u2) rfl rfl) (wg (by exact vaR (a := .list (jd w)) (zb rfl) rfl) (vc (yf (d := lfD l) (jl (jb (zb rfl) qc) rfl rfl q) rfl rfl) (wg (by exact vaR (a := lfD l) (zb rfl) rfl) (jbG (es := acc) (d := y5 (z1 + 1, z2, l)) rfl (vN (jb (zb rfl) (jb (zb rfl) (jb (zb rfl) qc))) rfl (by simp)) rfl (by omega) rfl)))))))⟩
  · rw [if_neg hlt]
    refine ⟨.dat (.int ((z1 + 1 : Nat) : Int)), .dat (.int (z2 : Nat)), s6, s7, vc wF (vc st2 (kg (xv (zb rfl) (zb rfl) (by omega)) ?_))⟩
    show some (Out.nx [_, .own acc, _, _, _, _, _, _]) = some (Out.nx [_, .own (acc ++ []), _, _, _, _, _, _])
    rw [List.append_nil]
theorem qbO (r : List Nat) (hb : ∀ x ∈ r, x < 256) (hl : r.length ≤ 100000) : vae [.list (jd r)] = some (.retF ((xV r).map y5)) := by
  unfold vae yae
  refine yai ?_
  show yb _ _ [.dat (.list (jd r)), .un, .un, .un, .un, .un, .un, .un] = _
  refine vc (ρ1 := [.dat (.list (jd r)), .own [], .un, .un, .un, .un, .un, .un]) (xad (vn qc rfl (by decide)) rfl) ?_
  have hr := zE (E := eG xg (qa (eV 0) (ya))) (ρ := [.dat (.list (jd r)), .own [], .un, .un, .un, .un, .un, .un]) (j := (r.length : Nat)) (jaU r _ _ _ _ _ _ _) (by omega) (by omega)
  rw [Int.toNat_natCast, wao] at hr
  simp only [Int.zero_add] at hr
  have c1 := waU (α := Nat) (vs := [3]) (st := wF 3) (it := wi (qa (eG xg (qa (eV 0) (ya))) (ya))) (tt := tV (e2 qu (e2 yg (eV 0) (eV 3)) (eC (.int 0)))) (fe := eV 3) (ρ := [.dat (.list (jd r)), .own [], .un, .un, .un, .un, .un, .un]) (fun k => .int (k : Nat)) (fun k => .int (k : Nat)) (fun k => decide (r.getD k 0 = 0)) (xs := List.range r.length) rfl hr (by rw [List.length_range]; omega) (fun k hk => ⟨_, rfl, (ybK (wM (zb rfl) (zb rfl) (List.mem_range.mp hk)) rfl).trans (congrArg (fun b => some (Except.ok b)) (decide_eq_decide.mpr (by omega))), fun _ => ⟨_, zb rfl, rfl⟩⟩)
  rw [kcC] at c1
  refine vc (ρ1 := [.dat (.list (jd r)), .own [], .dat (.list (jd (kn 0 r))), .un, .un, .un, .un, .un]) (yf c1 rfl rfl) ?_
  have zl := zbO r 0
  have hr2 := zE (E := e2 gSub (eG xg (qa (eV 2) (ya))) (eC (.int 1))) (ρ := [.dat (.list (jd r)), .own [], .dat (.list (jd (kn 0 r))), .un, .un, .un, .un, .un]) (j := ((kn 0 r).length : Nat) - 1) (xW (wq (zb rfl) rfl) rfl) (by omega) (by omega)
  obtain ⟨ρ', h1, h2⟩ := wx (g := gN 3) (body := kbN) (ds := yh 0 (((kn 0 r).length : Nat) - 1 : Int).toNat) (ρ := [.dat (.list (jd r)), .own [], .dat (.list (jd (kn 0 r))), .un, .un, .un, .un, .un]) (fun i ρ => ∃ s3 s4 s5 s6 s7 : DL.Slot, ρ = [.dat (.list (jd r)), .own (((((kn 0 r).zip ((kn 0 r).drop 1)).take i).filterMap (xaK r)).map y5), .dat (.list (jd (kn 0 r))), s3, s4, s5, s6, s7]) ⟨_, _, _, _, _, rfl⟩ (by
    rintro i d ρ hd ⟨s3, s4, s5, s6, s7, rfl⟩
    obtain ⟨hi, rfl⟩ := jM hd
    have hi2 : i + 1 < (kn 0 r).length := by omega
    have hz : ((kn 0 r).zip ((kn 0 r).drop 1))[i]? = some ((kn 0 r)[i], (kn 0 r)[i + 1]) := by
      rw [List.getElem?_eq_getElem (by rw [List.length_zip, List.length_drop]; omega), List.getElem_zip, List.getElem_drop]
      simp only [Nat.add_comm 1 i]
    obtain ⟨t4, t5, t6, t7, e⟩ := qcX r hb hl i (kn 0 r)[i] (kn 0 r)[i + 1] (List.getElem?_eq_getElem _) (List.getElem?_eq_getElem _) (fun hlt => by
      rw [← xbk]
      unfold prs
      refine List.mem_map.mpr ⟨_, List.mem_filter.mpr ⟨List.mem_of_getElem? hz, decide_eq_true hlt⟩, rfl⟩) (((((kn 0 r).zip ((kn 0 r).drop 1)).take i).filterMap (xaK r)).map y5) (by
      rw [List.length_map]
      have q1 := List.length_filterMap_le (xaK r) (((kn 0 r).zip ((kn 0 r).drop 1)).take i)
      rw [List.length_take] at q1
      omega) s4 s5 s6 s7
    refine ⟨_, _, rfl, e, .dat (.int (i : Nat)), t4, t5, t6, t7, ?_⟩
    obtain ⟨hlz, ez⟩ := List.getElem?_eq_some_iff.mp hz
    rw [List.take_succ_eq_append_getElem hlz, ez, List.filterMap_append, List.map_append]
    have e3 : ∀ p : Nat × Nat, ((xaK r p).map y5).toList = ([p].filterMap (xaK r)).map y5 := fun p => by
      rw [List.filterMap_cons]
      cases xaK r p <;> rfl
    rw [e3])
  obtain ⟨s3, s4, s5, s6, s7, rfl⟩ := h2
  rw [List.take_of_length_le (by rw [qax, List.length_zip, List.length_drop]; omega), ← kct] at h1
  exact vc (wB hr2 h1) (qbK (r_b rfl))
noncomputable def arA : FS := yb (yc 6 (e2 xb (e2 xb (jg (qa (eC (.int 0)) (ya))) (wc FN.vy 1 (qa (wc FN.kB 1 (qa (wc FN.kM 2 (qa (eV 0) (qa (e2 xb (eV 4) (eC (.int 2))) (ya)))) (ya))) (ya)))) (jg (qa (eC (.int 0)) (ya))))) (yb (yc 7 (wc FN.je 3 (qa (eV 0) (qa (e2 xb (eV 4) (eC (.int 1))) (qa (eG xg (qa (eV 6) (ya))) (ya)))))) (yb (qg (tV (e2 qu (eV 5) (eC (.int 1)))) (yc 6 (e2 xb (jm (eV 6) (jj) (ve (eV 7))) (jm (eV 6) (ve (e2 xb (eV 7) (eC (.int 1)))) (jj)))) (qh)) (yb (qg (tV (e2 qu (eV 5) (eC (.int 2)))) (yc 6 (e2 xb (e2 xb (jm (eV 6) (jj) (ve (eV 7))) (jg (qa (wc FN.je 3 (qa (eV 0) (qa (eV 4) (qa (eC (.int 256)) (ya))))) (ya)))) (jm (eV 6) (ve (e2 xb (eV 7) (eC (.int 1)))) (jj)))) (qh)) (yb (qg (tV (e2 qu (eV 5) (eC (.int 3)))) (yc 6 (jm (eV 6) (ve (eC (.int 1))) (jj))) (qh)) (yc 2 (e2 xb (eV 2) (eV 6)))))))
noncomputable def arB : FS := yb (yc 8 (e2 yg (jg (qa (eC (.int 2)) (qa (eC (.int 256)) (ya)))) (wc FN.je 3 (qa (eV 0) (qa (e2 xb (eV 4) (eC (.int 1))) (qa (eC (.int 2)) (ya))))))) (yc 2 (e2 xb (eV 2) (zz [9] (wF 9) (wi (qa (wc FN.je 3 (qa (eV 0) (qa (e2 xb (eV 4) (eC (.int 1))) (qa (eC (.int 9)) (ya))))) (ya))) (fun _ => some (.ok true)) (wc FN.je 3 (qa (eV 0) (qa (e2 xb (e2 xb (eV 4) (eC (.int 2))) (eV 9)) (qa (eV 8) (ya))))))))
noncomputable def arT : FS := yb (yc 4 (e2 xb (e2 xb (eV 1) (eC (.int 1))) (e2 jq (eC (.int 18)) (eV 3)))) (yb (yc 5 (wc FN.je 3 (qa (eV 0) (qa (eV 4) (qa (eC (.int 6)) (ya)))))) (qg (tV (e2 jz (eV 5) (eC (.int 4)))) (yb (yc 6 (e2 xb (e2 xb (jg (qa (eC (.int 0)) (ya))) (wc FN.vy 1 (qa (wc FN.kB 1 (qa (wc FN.kM 2 (qa (eV 0) (qa (e2 xb (eV 4) (eC (.int 2))) (ya)))) (ya))) (ya)))) (jg (qa (eC (.int 0)) (ya))))) (yb (yc 7 (wc FN.je 3 (qa (eV 0) (qa (e2 xb (eV 4) (eC (.int 1))) (qa (eG xg (qa (eV 6) (ya))) (ya)))))) (yb (qg (tV (e2 qu (eV 5) (eC (.int 1)))) (yc 6 (e2 xb (jm (eV 6) (jj) (ve (eV 7))) (jm (eV 6) (ve (e2 xb (eV 7) (eC (.int 1)))) (jj)))) (qh)) (yb (qg (tV (e2 qu (eV 5) (eC (.int 2)))) (yc 6 (e2 xb (e2 xb (jm (eV 6) (jj) (ve (eV 7))) (jg (qa (wc FN.je 3 (qa (eV 0) (qa (eV 4) (qa (eC (.int 256)) (ya))))) (ya)))) (jm (eV 6) (ve (e2 xb (eV 7) (eC (.int 1)))) (jj)))) (qh)) (yb (qg (tV (e2 qu (eV 5) (eC (.int 3)))) (yc 6 (jm (eV 6) (ve (eC (.int 1))) (jj))) (qh)) (yc 2 (e2 xb (eV 2) (eV 6)))))))) (yb (yc 8 (e2 yg (jg (qa (eC (.int 2)) (qa (eC (.int 256)) (ya)))) (wc FN.je 3 (qa (eV 0) (qa (e2 xb (eV 4) (eC (.int 1))) (qa (eC (.int 2)) (ya))))))) (yc 2 (e2 xb (eV 2) (zz [9] (wF 9) (wi (qa (wc FN.je 3 (qa (eV 0) (qa (e2 xb (eV 4) (eC (.int 1))) (qa (eC (.int 9)) (ya))))) (ya))) (fun _ => some (.ok true)) (wc FN.je 3 (qa (eV 0) (qa (e2 xb (e2 xb (eV 4) (eC (.int 2))) (eV 9)) (qa (eV 8) (ya)))))))))))
noncomputable def jc5 : FS := qg (tV (e2 qu (eV 5) (eC (.int 1)))) (yc 6 (e2 xb (jm (eV 6) (jj) (ve (eV 7))) (jm (eV 6) (ve (e2 xb (eV 7) (eC (.int 1)))) (jj)))) (qh)
noncomputable def wc5 : FS := qg (tV (e2 qu (eV 5) (eC (.int 2)))) (yc 6 (e2 xb (e2 xb (jm (eV 6) (jj) (ve (eV 7))) (jg (qa (wc FN.je 3 (qa (eV 0) (qa (eV 4) (qa (eC (.int 256)) (ya))))) (ya)))) (jm (eV 6) (ve (e2 xb (eV 7) (eC (.int 1)))) (jj)))) (qh)
noncomputable def vc5 : FS := qg (tV (e2 qu (eV 5) (eC (.int 3)))) (yc 6 (jm (eV 6) (ve (eC (.int 1))) (jj))) (qh)
def xG (ds : List Int) (R : List Nat) (s3 s4 s5 s6 s7 s8 : DL.Slot) : jc := [.dat (.list (ds.map .int)), .dat (.int 0), .dat (.list (jd R)), s3, s4, s5, s6, s7, s8, .un]
def By (P : List Nat) : Prop := ∀ x ∈ P, x < 256
theorem By.app {a b : List Nat} (h1 : By a) (h2 : By b) : By (a ++ b) := fun x hx => (List.mem_append.mp hx).elim (h1 x) (h2 x)
theorem By.take {a : List Nat} (h : By a) (n : Nat) : By (a.take n) := fun x hx => h x (List.mem_of_mem_take hx)
theorem By.drop {a : List Nat} (h : By a) (n : Nat) : By (a.drop n) := fun x hx => h x (List.mem_of_mem_drop hx)
section
variable {ds : List Int} {R P : List Nat} {s3 s8 : DL.Slot} {n wd pl : Nat} {at_ : Int}
theorem qcu (h : pl < P.length) (s5 : DL.Slot) (hP : P.length ≤ 3000) :
    jm (eV 6) (jj) (ve (eV 7)) (xG ds R s3 (.dat (.int at_)) s5 (.dat (.list (jd P))) (.dat (.int (pl : Nat))) s8) = some (.ok (.f (jd (P.take pl)))) ∧ jm (eV 6) (ve (e2 xb (eV 7) (eC (.int 1)))) (jj) (xG ds R s3 (.dat (.int at_)) s5 (.dat (.list (jd P))) (.dat (.int (pl : Nat))) s8) = some (.ok (.f (jd (P.drop (pl + 1))))) :=
  ⟨xbK (zb rfl) (.inl rfl) (zb rfl), qaU (zb rfl) (.inl rfl) (wm (zb rfl) rfl)⟩
theorem kdi (h : pl < P.length) (hP : P.length ≤ 3000) (hb : By P) : ∃ P' : List Nat, By P' ∧ P'.length ≤ P.length ∧ (wd ≠ 1 → P' = P) ∧ jc5 (xG ds R s3 (.dat (.int at_)) (.dat (.int (wd : Nat))) (.dat (.list (jd P))) (.dat (.int (pl : Nat))) s8) = some (.nx (xG ds R s3 (.dat (.int at_)) (.dat (.int (wd : Nat))) (.dat (.list (jd P'))) (.dat (.int (pl : Nat))) s8)) := by
  unfold jc5
  by_cases e : wd = 1
  · obtain ⟨c1, c2⟩ := qcu (ds := ds) (R := R) (s3 := s3) (s8 := s8) (at_ := at_) h (.dat (.int (wd : Nat))) hP
    refine ⟨P.take pl ++ P.drop (pl + 1), (hb.take _).app (hb.drop _), by rw [List.length_append, List.length_take, List.length_drop]; omega, fun z => absurd e z, wg (yv (zb rfl) rfl (by omega)) (yf (vB c1 c2 rfl rfl rfl (by rw [List.length_take, List.length_drop]; omega)) rfl rfl)⟩
  · exact ⟨P, hb, Nat.le_refl _, fun _ => rfl, kg (vp (zb rfl) rfl (by omega)) rfl⟩
theorem qdj (h : wd = 2 → pl < P.length) (hP : P.length ≤ 3000) (hb : By P) (ha : 0 ≤ at_) : ∃ P' : List Nat, By P' ∧ P'.length ≤ P.length ∧ wc5 (xG ds R s3 (.dat (.int at_)) (.dat (.int (wd : Nat))) (.dat (.list (jd P))) (.dat (.int (pl : Nat))) s8) = some (.nx (xG ds R s3 (.dat (.int at_)) (.dat (.int (wd : Nat))) (.dat (.list (jd P'))) (.dat (.int (pl : Nat))) s8)) := by
  unfold wc5
  by_cases e : wd = 2
  · have h := h e
    obtain ⟨c1, c2⟩ := qcu (ds := ds) (R := R) (s3 := s3) (s8 := s8) (at_ := at_) h (.dat (.int (wd : Nat))) hP
    obtain ⟨x, hx, hx2⟩ := yA ds at_ 256 (by omega)
    have q := jae (fa := eV 0) (fb := eV 4) (fc := eC (.int 256)) (ρ := xG ds R s3 (.dat (.int at_)) (.dat (.int (wd : Nat))) (.dat (.list (jd P))) (.dat (.int (pl : Nat))) s8) (ds := ds) (zb rfl) (zb rfl) rfl ha (by omega)
    rw [← hx] at q
    refine ⟨P.take pl ++ [x] ++ P.drop (pl + 1), ((hb.take _).app ?_).app (hb.drop _), by rw [List.length_append, List.length_append, List.length_take, List.length_drop, List.length_singleton]; omega, wg (yv (zb rfl) rfl (by omega)) (yf (vB (x := P.take pl ++ [x]) (vB (y := [x]) c1 (vn (ds := jd [x]) (jb q qc) rfl (by simp)) rfl rfl rfl (by rw [List.length_take, List.length_singleton]; omega)) c2 rfl rfl rfl (by rw [List.length_append, List.length_take, List.length_drop, List.length_singleton]; omega)) rfl rfl)⟩
    intro y hy
    rw [List.mem_singleton] at hy
    omega
  · exact ⟨P, hb, Nat.le_refl _, kg (vp (zb rfl) rfl (by omega)) rfl⟩
theorem zdj (hP : P.length ≤ 3000) (hb : By P) : ∃ P' : List Nat, By P' ∧ P'.length ≤ P.length ∧ vc5 (xG ds R s3 (.dat (.int at_)) (.dat (.int (wd : Nat))) (.dat (.list (jd P))) (.dat (.int (pl : Nat))) s8) = some (.nx (xG ds R s3 (.dat (.int at_)) (.dat (.int (wd : Nat))) (.dat (.list (jd P'))) (.dat (.int (pl : Nat))) s8)) := by
  unfold vc5
  by_cases e : wd = 3
  · exact ⟨P.drop 1, hb.drop _, by rw [List.length_drop]; omega, wg (yv (zb rfl) rfl (by omega)) (yf (qaU (i := 1) (zb rfl) (.inl rfl) rfl) rfl rfl)⟩
  · exact ⟨P, hb, Nat.le_refl _, kg (vp (zb rfl) rfl (by omega)) rfl⟩
theorem jdj (ha : 0 ≤ at_) (hb : By R) (hR : R.length ≤ 100000) (s6 s7 : DL.Slot) : ∃ (R' : List Nat) (t6 t7 : DL.Slot), By R' ∧ R'.length ≤ R.length + 3000 ∧ arA (xG ds R s3 (.dat (.int at_)) (.dat (.int (wd : Nat))) s6 s7 s8) = some (.nx (xG ds R' s3 (.dat (.int at_)) (.dat (.int (wd : Nat))) t6 t7 s8)) := by
  obtain ⟨l, hl, hle⟩ := wbZ ds (at_ + 2) (by omega)
  obtain ⟨f1, f2, f3, f4, f5, f6, f7⟩ := qcD hl
  have hcall := jl (n := 1) (G := FN.vy) (jb (qP (n := 1) (G := FN.kB) (jb (jl (n := 2) (G := FN.kM) (jb (E := eV 0) (ρ := xG ds R s3 (.dat (.int at_)) (.dat (.int (wd : Nat))) s6 s7 s8) (v := .s (.list (ds.map .int))) (zb rfl) (jb (E := e2 xb (eV 4) (eC (.int 2))) (v := .s (.int (at_ + 2))) (vk (zb rfl) rfl) qc)) rfl rfl hle) qc) rfl rfl (vbq hl)) qc) rfl rfl f7
  have hpc := vB (x := [0] ++ sw l) (y := [0]) (vB (x := [0]) (y := sw l) (vn (ds := jd [0]) (A := qa (eC (.int 0)) (ya)) (jb rfl qc) rfl (by simp)) hcall rfl rfl rfl (by simp; omega)) (vn (ds := jd [0]) (A := qa (eC (.int 0)) (ya)) (jb rfl qc) rfl (by simp)) rfl rfl rfl (by simp; omega)
  generalize hP0 : [0] ++ sw l ++ [0] = P0 at hpc
  have bP0 : By P0 := by
    rw [← hP0]
    refine By.app (By.app ?_ f4) ?_ <;> (intro x hx; simp at hx; omega)
  have lP0 : P0.length ≤ 2600 := by
    rw [← hP0]
    simp
    omega
  have pP0 : 0 < P0.length := by
    rw [← hP0]
    simp
  have hq := jae (fa := eV 0) (fb := e2 xb (eV 4) (eC (.int 1))) (fc := eG xg (qa (eV 6) (ya))) (ρ := xG ds R s3 (.dat (.int at_)) (.dat (.int (wd : Nat))) (.dat (.list (jd P0))) s7 s8) (ds := ds) (k := at_ + 1) (m := (P0.length : Nat)) (zb rfl) (vk (zb rfl) rfl) (wq (zb rfl) rfl) (by omega) (by omega)
  obtain ⟨pl, hpl, hpl2⟩ := yA ds (at_ + 1) (P0.length : Nat) (by omega)
  rw [← hpl] at hq
  obtain ⟨P1, b1, l1, n1, e1⟩ := kdi (ds := ds) (R := R) (s3 := s3) (s8 := s8) (wd := wd) (pl := pl) (at_ := at_) (P := P0) (by omega) (by omega) bP0
  obtain ⟨P2, b2, l2, e2⟩ := qdj (ds := ds) (R := R) (s3 := s3) (s8 := s8) (wd := wd) (pl := pl) (at_ := at_) (P := P1) (fun z => by rw [n1 (by omega)]; omega) (by omega) b1 ha
  obtain ⟨P3, b3, l3, e3⟩ := zdj (ds := ds) (R := R) (s3 := s3) (s8 := s8) (wd := wd) (pl := pl) (at_ := at_) (P := P2) (by omega) b2
  unfold arA
  refine ⟨R ++ P3, .dat (.list (jd P3)), .dat (.int (pl : Nat)), hb.app b3, by rw [List.length_append]; omega, ?_⟩
  refine vc (ρ1 := xG ds R s3 (.dat (.int at_)) (.dat (.int (wd : Nat))) (.dat (.list (jd P0))) s7 s8) (yf hpc rfl rfl) ?_
  refine vc (ρ1 := xG ds R s3 (.dat (.int at_)) (.dat (.int (wd : Nat))) (.dat (.list (jd P0))) (.dat (.int (pl : Nat))) s8) (yf hq rfl rfl) ?_
  refine vc e1 (vc e2 (vc e3 ?_))
  exact yf (vB (zb rfl) (zb rfl) rfl rfl rfl (by omega)) rfl rfl
theorem wdj (ha : 0 ≤ at_) (hb : By R) (hR : R.length ≤ 100000) (s5 s6 s7 s8 : DL.Slot) : ∃ (R' : List Nat) (t8 : DL.Slot), By R' ∧ R'.length ≤ R.length + 3000 ∧ arB (xG ds R s3 (.dat (.int at_)) s5 s6 s7 s8) = some (.nx (xG ds R' s3 (.dat (.int at_)) s5 s6 s7 t8)) := by
  have hq := jae (fa := eV 0) (fb := e2 xb (eV 4) (eC (.int 1))) (fc := eC (.int 2)) (ρ := xG ds R s3 (.dat (.int at_)) s5 s6 s7 s8) (ds := ds) (k := at_ + 1) (m := 2) (zb rfl) (vk (zb rfl) rfl) rfl (by omega) (by omega)
  have a1 := ybj ds (at_ + 1) 2 (by omega)
  have a2 := qbM ds (at_ + 1) 2 (by omega)
  obtain ⟨m, hm0, hm1, hm⟩ : ∃ m : Int, 0 < m ∧ m ≤ 256 ∧ atI [PyData.int 2, .int 256] (atD ds (at_ + 1) 2) = some (.int m) := by
    generalize atD ds (at_ + 1) 2 = j at a1 a2
    rcases (show j = 0 ∨ j = 1 by omega) with h | h <;> subst h
    · exact ⟨2, by decide, by decide, rfl⟩
    · exact ⟨256, by decide, by decide, rfl⟩
  obtain ⟨c, hc, hc9⟩ := yA ds (at_ + 1) 9 (by omega)
  have hq9 := jae (fa := eV 0) (fb := e2 xb (eV 4) (eC (.int 1))) (fc := eC (.int 9)) (ρ := xG ds R s3 (.dat (.int at_)) s5 s6 s7 (.dat (.int m))) (ds := ds) (k := at_ + 1) (m := 9) (zb rfl) (vk (zb rfl) rfl) rfl (by omega) (by omega)
  rw [← hc] at hq9
  have hr := zE hq9 (by omega) (by omega)
  rw [Int.toNat_natCast] at hr
  have hX : ∀ j : Nat, ∃ x : Nat, (x : Int) = atD ds (at_ + 2 + (j : Int)) m ∧ x < 256 := fun j => by
    obtain ⟨x, h1, h2⟩ := yA ds (at_ + 2 + (j : Int)) m hm0
    exact ⟨x, h1, by omega⟩
  let X : Nat → Nat := fun j => Classical.choose (hX j)
  have hXs : ∀ j : Nat, ((X j : Nat) : Int) = atD ds (at_ + 2 + (j : Int)) m ∧ X j < 256 := fun j => Classical.choose_spec (hX j)
  have hcmp := vao (vs := [9]) (st := wF 9) (a := qa (wc FN.je 3 (qa (eV 0) (qa (e2 xb (eV 4) (eC (.int 1))) (qa (eC (.int 9)) (ya))))) (ya)) (tt := fun _ => some (.ok true)) (fe := wc FN.je 3 (qa (eV 0) (qa (e2 xb (e2 xb (eV 4) (eC (.int 2))) (eV 9)) (qa (eV 8) (ya))))) (ρ := xG ds R s3 (.dat (.int at_)) s5 s6 s7 (.dat (.int m))) (n := c) (F := fun j => .int (X j : Nat)) rfl hr (by omega) (fun j _ => by
    refine ⟨_, .s (.int (X j : Nat)), rfl, rfl, ?_, rfl⟩
    rw [(hXs j).1]
    exact jae (zb rfl) (vk (vk (zb rfl) rfl) (zb rfl)) (zb rfl) (by omega) hm0)
  have ej : (List.range c).map (fun j => (PyData.int (X j : Nat) : D)) = jd ((List.range c).map X) := by
    unfold jd
    rw [List.map_map]
    rfl
  rw [ej] at hcmp
  unfold arB
  refine ⟨R ++ (List.range c).map X, .dat (.int m), hb.app ?_, by rw [List.length_append, List.length_map, List.length_range]; omega, ?_⟩
  · intro x hx
    obtain ⟨j, _, rfl⟩ := List.mem_map.mp hx
    exact (hXs j).2
  refine vc (ρ1 := xG ds R s3 (.dat (.int at_)) s5 s6 s7 (.dat (.int m))) (yf (kce (vn (jb rfl (jb rfl qc)) rfl (by simp)) hq hm rfl) rfl rfl) ?_
  exact yf (vB (zb rfl) hcmp rfl rfl rfl (by rw [List.length_map, List.length_range]; omega)) rfl rfl
theorem vdj (hb : By R) (hR : R.length ≤ 100000) (n : Nat) (hn : n < 1000) (s4 s5 s6 s7 s8 : DL.Slot) : ∃ (R' : List Nat) (t4 t5 t6 t7 t8 : DL.Slot), By R' ∧ R'.length ≤ R.length + 3000 ∧ arT (xG ds R (.dat (.int (n : Nat))) s4 s5 s6 s7 s8) = some (.nx (xG ds R' (.dat (.int (n : Nat))) t4 t5 t6 t7 t8)) := by
  have h4 : yc 4 (e2 xb (e2 xb (eV 1) (eC (.int 1))) (e2 jq (eC (.int 18)) (eV 3))) (xG ds R (.dat (.int (n : Nat))) s4 s5 s6 s7 s8) = some (.nx (xG ds R (.dat (.int (n : Nat))) (.dat (.int (0 + 1 + 18 * (n : Int)))) s5 s6 s7 s8)) := yf (vk (vk (zb rfl) rfl) (xa4 rfl (zb rfl) (xaQ (by omega) (by omega)))) rfl rfl
  generalize hat : (0 + 1 + 18 * (n : Int)) = at_ at h4
  have ha : 0 ≤ at_ := by omega
  have hq := jae (fa := eV 0) (fb := eV 4) (fc := eC (.int 6)) (ρ := xG ds R (.dat (.int (n : Nat))) (.dat (.int at_)) s5 s6 s7 s8) (ds := ds) (k := at_) (m := 6) (zb rfl) (zb rfl) rfl ha (by omega)
  obtain ⟨wd, hw, hw6⟩ := yA ds at_ 6 (by omega)
  rw [← hw] at hq
  have h5 : yc 5 (wc FN.je 3 (qa (eV 0) (qa (eV 4) (qa (eC (.int 6)) (ya))))) (xG ds R (.dat (.int (n : Nat))) (.dat (.int at_)) s5 s6 s7 s8) = some (.nx (xG ds R (.dat (.int (n : Nat))) (.dat (.int at_)) (.dat (.int (wd : Nat))) s6 s7 s8)) := yf hq rfl rfl
  unfold arT
  by_cases hlt : wd < 4
  · obtain ⟨R', t6, t7, h1, h2, h3⟩ := jdj (ds := ds) (s3 := .dat (.int (n : Nat))) (s8 := s8) (wd := wd) ha hb hR s6 s7
    exact ⟨R', _, _, t6, t7, s8, h1, h2, vc h4 (vc h5 (wg (qq (zb rfl) rfl (by omega)) h3))⟩
  · obtain ⟨R', t8, h1, h2, h3⟩ := wdj (ds := ds) (s3 := .dat (.int (n : Nat))) ha hb hR (.dat (.int (wd : Nat))) s6 s7 s8
    exact ⟨R', _, _, s6, s7, t8, h1, h2, vc h4 (vc h5 (kg (xv (zb rfl) rfl (by omega)) h3))⟩
end
theorem ybq (ds : List Int) : ∃ R : List Nat, (∀ x ∈ R, x < 256) ∧ R.length ≤ 30000 ∧ kZ [.list (ds.map .int), .int 0] = some (.ret (.list (jd R))) := by
  obtain ⟨c, hc, hc7⟩ := yA ds 0 7 (by omega)
  have hq := jae (fa := eV 0) (fb := eV 1) (fc := eC (.int 7)) (ρ := xG ds [] .un .un .un .un .un .un) (ds := ds) (k := 0) (m := 7) (zb rfl) (zb rfl) rfl (by omega) (by omega)
  rw [← hc] at hq
  have hr := zE (vk (i := 1) (fa := eC (.int 1)) rfl hq) (by omega) (by omega)
  rw [show ((1 : Int) + (c : Nat)).toNat = 1 + c by omega] at hr
  obtain ⟨ρ', h1, R, s3, s4, s5, s6, s7, s8, rfl, h2, h3⟩ := wx (g := gN 3) (body := arT) (ds := yh 0 (1 + c)) (ρ := xG ds [] .un .un .un .un .un .un) (fun i ρ => ∃ (R : List Nat) (s3 s4 s5 s6 s7 s8 : DL.Slot), ρ = xG ds R s3 s4 s5 s6 s7 s8 ∧ By R ∧ R.length ≤ i * 3000) ⟨[], _, _, _, _, _, _, rfl, fun _ h => (nomatch h), Nat.zero_le _⟩ (by
    rintro i d ρ hd ⟨R, s3, s4, s5, s6, s7, s8, rfl, h2, h3⟩
    obtain ⟨hi, rfl⟩ := jM hd
    obtain ⟨R', t4, t5, t6, t7, t8, g1, g2, g3⟩ := vdj (ds := ds) h2 (by omega) i (by omega) s4 s5 s6 s7 s8
    exact ⟨_, _, rfl, g3, R', _, t4, t5, t6, t7, t8, rfl, g1, by omega⟩)
  rw [qax] at h3
  refine ⟨R, h2, by omega, ?_⟩
  unfold kZ q0
  refine zw ?_
  show yb _ _ [.dat (.list (ds.map .int)), .dat (.int 0), .un, .un, .un, .un, .un, .un, .un, .un] = _
  refine vc (ρ1 := xG ds [] .un .un .un .un .un .un) (yf (vn qc rfl (by simp)) rfl rfl) ?_
  exact vc (wB hr h1) (wu (zb rfl))
end FL
namespace FL
open PySem PySem.Spec PyProof.Rows L2 DL FN
open LF (zj)
open PL
theorem wcY {i j k1 k2 k3 kx n : Nat} {F : TF} {g : FA} {f2 : FE} {t3 t4 t5 : FT} {rest : FS} {ρ : jc} {vs : List Val} {as ds : List D} {v2 : Val} {d2 : D} {o : Option Out}
    (h1 : (noOwn ρ [i, j, k1, k2, k3] && (decide (i ≠ j) && (decide (i ≠ k1) && (decide (i ≠ k2) && (decide (i ≠ k3) && (decide (k1 ≠ k2) && (decide (k1 ≠ k3) && (decide (k2 ≠ k3) && (decide (i < ρ.length) && (decide (k1 < ρ.length) && (decide (k2 < ρ.length) && decide (k3 < ρ.length)))))))))))) = true)
    (hg : g ρ = some (.ok vs)) (hs : vw vs = some as) (hn : as.length = n) (hF : F as = some ds) (hk : ds.all (vbi kx) = true) (hl : yo (ds.length + 1) = true) (h2 : f2 (ρ.set i .un) = some (.ok v2)) (hv : v2.st = some d2)
    (h3 : t3 (((ρ.set i .un).set j (.dat d2)).set i (.dat (.list ds))) = some (.ok false)) (ht : ∀ d ∈ ds, FiT k1 k2 k3 t4 t5 (((((ρ.set i .un).set j (.dat d2)).set k1 .un).set k2 .un).set k3 .un) d) (hr : rest (((((ρ.set i .un).set j (.dat d2)).set k1 .un).set k2 .un).set k3 .un) = o) :
    za4 i j k1 k2 k3 kx F n g f2 t3 t4 t5 rest ρ = o := by
  unfold za4
  rw [if_pos h1, hg]
  dsimp only
  rw [hs]
  dsimp only
  rw [if_pos hn, hF]
  dsimp only
  rw [if_pos ⟨hk, hl⟩, h2]
  dsimp only
  rw [hv]
  dsimp only
  rw [h3]
  dsimp only
  rw [if_pos ht]
  exact hr
theorem kdc (n : Nat) (x : Nat × Nat × zj) : pl true (n + 3) (y5 x) = true := by
  show List.all _ (pl true (n + 2)) = true
  simp only [List.all_cons, List.all_nil, xdc n x.2.2, Bool.and_true]
  rfl
theorem ybr (xs : List (Nat × Nat × zj)) : eqD (.list (xs.map y5)) (.list (xs.map y5)) = some true := qcC 4 (by
  show List.all _ (pl true 3) = true
  rw [List.all_eq_true]
  intro y hy
  obtain ⟨x, _, rfl⟩ := List.mem_map.mp hy
  exact kdc 0 x)
theorem xby {R : List Nat} (hb : ∀ x ∈ R, x < 256) (hl : R.length ≤ 30000) {x : Nat × Nat × zj} (h : x ∈ xV R) : ∃ P : List Nat, P ≠ [] ∧ (∀ y ∈ P, 0 < y ∧ y < 256) ∧ x.1 < x.2.1 ∧ x.2.1 < R.length ∧ (R.drop x.1).take (x.2.1 - x.1) = P ∧ P.length = x.2.1 - x.1 ∧ zbg P = some x.2.2 ∧ x.2.2.body.length ≤ 30000 := by
  obtain ⟨p, hp, e⟩ := List.mem_filterMap.mp h
  obtain ⟨p1, p2, p3, p4, p5⟩ := yaK hb hp
  unfold xaq at e
  generalize hP : (R.drop p.1).take (p.2 - p.1) = P at *
  cases el : zbg P with
  | none => rw [el] at e; cases e
  | some l =>
    rw [el] at e
    cases e
    refine ⟨P, p3, p4, p1, p2, hP, p5, el, ?_⟩
    unfold zbg at el
    rcases qbg P p4 p3 (by omega) with ⟨j, u1, _⟩ | ⟨w, w1, w2, u1, _⟩
    · rw [va5 u1] at el; cases el
    · rw [wa5 u1] at el
      rw [Option.bind_some] at el
      cases hrd : LF.read w with
      | error z => rw [hrd] at el; cases el
      | ok l' =>
        rw [hrd] at el
        cases el
        have := xca w1 hrd
        show l.body.length ≤ 30000
        omega
theorem kcu {P : List Nat} {l : zj} (h0 : P ≠ []) (hp : ∀ y ∈ P, 0 < y ∧ y < 256) (h : zbg P = some l) : xV ([0] ++ P ++ [0]) = [(1, 1 + P.length, l)] := by
  have hn : ∀ y ∈ P, y ≠ 0 := fun y hy => by have := (hp y hy).1; omega
  have hl : 0 < P.length := List.length_pos_iff.mpr h0
  unfold xV
  have e1 : [0] ++ P ++ [0] = 0 :: (P ++ 0 :: []) := rfl
  rw [e1, xaA, qc8 hn, if_pos ⟨rfl, hl, by rw [List.length_append, List.length_singleton]; omega⟩, jcE _ hn, xaA]
  rw [if_neg (by rintro ⟨_, z, _⟩; exact absurd z (by decide))]
  show List.filterMap _ [(0 + 1, 0 + 1 + P.length)] = _
  rw [List.filterMap_cons]
  unfold xaq
  have e2 : ((0 :: (P ++ 0 :: [])).drop (0 + 1, 0 + 1 + P.length).1).take ((0 + 1, 0 + 1 + P.length).2 - (0 + 1, 0 + 1 + P.length).1) = P := by
    dsimp only
    rw [show 0 + 1 + P.length - (0 + 1) = P.length by omega, List.drop_succ_cons, List.drop_zero, List.take_left]
  rw [e2, h]
  rfl
theorem wcE (ns : List Int) (h : ns.length ≤ 63) : FN.yap [DL.qW ns] = some (.ret (.bool true)) := by
  obtain ⟨ds, hd, hlen, he⟩ := kbL ns h
  obtain ⟨R, hb, hl, hR⟩ := ybq ds
  unfold yap vby
  refine zcu (ρ0 := [.dat (DL.qW ns), .un, .un, .un, .un, .un, .un, .un, .un]) rfl ?_
  refine waR (xcB (jb (zb rfl) qc) rfl rfl he (vaK ds)) rfl ?_
  dsimp only [List.set]
  refine waR (jl (jb (zb rfl) (jb rfl qc)) rfl rfl hR) rfl ?_
  dsimp only [List.set]
  refine waR (kaT (es := jd R) (zb rfl) rfl) rfl ?_
  dsimp only [List.set]
  have hfl : (xV R).length ≤ 30000 := by
    have q1 := List.length_filterMap_le (xaq R) (plc 0 R)
    have q2 := jbq R 0
    unfold xV
    omega
  refine wcY (as := [.list (jd R)]) (d2 := .list ((xV R).map y5)) rfl (jb (zb rfl) qc) rfl rfl (zbk R hb (by omega)) ?_ (zp (by rw [List.length_map]; omega)) (qP (jb (zb rfl) qc) rfl rfl (qbO R hb (by omega))) rfl ?_ ?_ ?_
  · rw [List.all_eq_true]
    intro y hy
    obtain ⟨x, hx, rfl⟩ := List.mem_map.mp hy
    obtain ⟨_, _, _, _, _, _, _, _, hbl⟩ := xby hb hl hx
    unfold vbi y5 lfD
    dsimp only
    simp only [List.set, List.all_cons, List.all_nil]
    show (_ && (_ && (_ && ((jd x.2.2.body).all vj && yo ((jd x.2.2.body).length + 1))))) = true
    rw [va4, zp (by rw [xi]; omega)]
    rfl
  · dsimp only [List.set]
    exact vu (kaQ (kO (jce (zb rfl)) rfl)) (vu (kO (jbK (x := true) (zb rfl) (zb rfl) (ybr _)) rfl) (kO (jbK (x := true) (zb rfl) (zb rfl) (zbZ _)) rfl))
  · intro y hy
    obtain ⟨x, hx, rfl⟩ := List.mem_map.mp hy
    obtain ⟨P, p1, p2, p3, p4, p5, p6, p7, hbl⟩ := xby hb hl hx
    have hn0 : ∀ y ∈ [0] ++ P ++ [0], y < 256 := fun y hy => by
      simp only [List.mem_append, List.mem_singleton] at hy
      rcases hy with (hy | hy) | hy
      · omega
      · exact (p2 y hy).2
      · omega
    have hsal := zby ([0] ++ P ++ [0]) hn0 (by simp; omega)
    rw [kcu p1 p2 p7] at hsal
    refine ⟨.int (x.1 : Nat), .int (x.2.1 : Nat), _, rfl, ?_, ?_⟩
    · dsimp only [List.set]
      exact vu (kaQ (kO (jce (zb rfl)) rfl)) (kaQ (kO (jce (kba (zb rfl) rfl rfl)) rfl))
    · dsimp only [List.set]
      have hsl := zac (E := eV 3) (F := eV 6) (G := eV 7) (ρ := [.dat (DL.qW ns), .dat (.list (ds.map .int)), .dat (.list (jd R)), .dat (.list (jd R)), .un, .dat (.list ((xV R).map y5)), .dat (.int (x.1 : Nat)), .dat (.int (x.2.1 : Nat)), .dat (lfD x.2.2)]) (r := R) (i := x.1) (j := x.2.1) (zb rfl) (.inl rfl) (zb rfl) (zb rfl) (by omega) (by omega)
      rw [p5] at hsl
      have hc := vB (x := [0] ++ P) (y := [0]) (vB (x := [0]) (y := P) (vn (ds := jd [0]) (A := qa (eC (.int 0)) (ya)) (jb rfl qc) rfl (by simp)) hsl rfl rfl rfl (by simp; omega)) (vn (ds := jd [0]) (A := qa (eC (.int 0)) (ya)) (jb rfl qc) rfl (by simp)) rfl rfl rfl (by simp; omega)
      have h1 := qP (n := 1) (G := FN.vac) (jb hc qc) rfl rfl hsal
      have hsub : e2 DL.gSub (e2 xb (eC (.int 1)) (eV 7)) (eV 6) [.dat (DL.qW ns), .dat (.list (ds.map .int)), .dat (.list (jd R)), .dat (.list (jd R)), .un, .dat (.list ((xV R).map y5)), .dat (.int (x.1 : Nat)), .dat (.int (x.2.1 : Nat)), .dat (lfD x.2.2)] = some (.ok (.s (.int ((1 + P.length : Nat) : Int)))) := by
        have q := xW (vk (i := 1) (fa := eC (.int 1)) (ρ := [.dat (DL.qW ns), .dat (.list (ds.map .int)), .dat (.list (jd R)), .dat (.list (jd R)), .un, .dat (.list ((xV R).map y5)), .dat (.int (x.1 : Nat)), .dat (.int (x.2.1 : Nat)), .dat (lfD x.2.2)]) rfl (zb (i := 7) rfl)) (zb (i := 6) rfl)
        rw [q]
        congr 4
        omega
      exact kO (jbK (x := true) h1 (vn (ds := [y5 (1, 1 + P.length, x.2.2)]) (jb (vN (jb rfl (jb hsub (jb (zb rfl) qc))) rfl (by simp)) qc) rfl (by simp)) (ybr [(1, 1 + P.length, x.2.2)])) rfl
  · dsimp only [List.set]
    exact wu (jc3 (x := true) (qP (jb (zb rfl) qc) rfl rfl (zby R hb (by omega))) (zb rfl) (ybr _))
end FL
namespace K44
theorem zcE (ns : List Int) (h : ns.length ≤ 63) : FN.yap [DL.qW ns] = some (.ret (.bool true)) := FL.wcE ns h
end K44
open PySem PySem.W PyProof.Rows
set_option maxRecDepth 100000 in
set_option maxHeartbeats 0 in
theorem PySem.Challenge.cw_spoolbox_k44_what_stands_in_a_row_holds : PySem.Challenge.rw_spoolbox_k44_what_stands_in_a_row.Holds := by
  w_on; o_law; k_head; (case hw => w_witness2)
  k_fill
  refine L2.walk_of (l := PySem.Challenge.rw_spoolbox_k44_what_stands_in_a_row) (n := 63) (k := 9) (x := "script") (CX := fun w => L2.CX PySem.Challenge.rw_spoolbox_k44_what_stands_in_a_row.prog w) (sp := fun w => DL.zce _) rfl (by decide) rfl ⟨rfl, by decide, by decide⟩ (fun w h Y => PySem.W.kIn_of Y) ?F (fun _ _ a ns hl _ hS => ⟨a, ns, rfl, hS, hl, fun _ => rfl⟩) (fun _ _ _ _ _ h => DL.zcV h)
  case F =>
    intro w mg fa h KX G hmg
    refine' K44.all_mk KX G hmg K44.zcE ?a0 ?l0 ?c0 ?k0 ?a1 ?l1 ?c1 ?k1 ?a2 ?l2 ?c2 ?k2 ?a3 ?l3 ?c3 ?k3 ?a4 ?l4 ?c4 ?k4 ?a5 ?l5 ?c5 ?k5 ?a6 ?l6 ?c6 ?k6 ?a7 ?l7 ?c7 ?k7 ?a8 ?l8 ?c8 ?k8 ?a9 ?l9 ?c9 ?k9 ?a10 ?l10 ?c10 ?k10 ?a11 ?l11 ?c11 ?k11 ?a12 ?l12 ?c12 ?k12 ?a13 ?l13 ?c13 ?k13 ?a14 ?l14 ?c14 ?k14 ?a15 ?l15 ?c15 ?k15 ?a16 ?l16 ?c16 ?k16 ?a17 ?l17 ?c17 ?k17 ?a18 ?l18 ?c18 ?k18 ?a19 ?l19 ?c19 ?k19 ?a20 ?l20 ?c20 ?k20 ?a21 ?l21 ?c21 ?k21 ?a22 ?l22 ?c22 ?k22 ?a23 ?l23 ?c23 ?k23 ?a24 ?l24 ?c24 ?k24 ?a25 ?l25 ?c25 ?k25 ?a26 ?l26 ?c26 ?k26 ?a27 ?l27 ?c27 ?k27 ?zq ?vbl ?jr ?ybl ?vaa ?v7 ?xbl ?ybb ?jaz ?qaB ?jI ?zcg ?vbr ?zaB ?jaB ?qaL ?qar ?xaU ?kaU ?qaV ?wbg ?vbg ?qa6 ?wbP ?lI ?cI ?kI ?tI ?zaV ?jaV ?waV ?vaV ?j3 ?yaV ?xaV ?jax ?kaV ?jaf ?waf ?vaf ?zaL ?jaL ?waL ?vaL ?qU ?yaL ?xaL ?jan ?kaL ?y7 ?q8 ?j8 ?waB ?vaB ?yaB ?xaB ?yP ?kaB ?qaC ?yaf ?zaC ?vX ?yX ?xX ?xaf ?jaC ?waC ?vaC ?xP ?yaC ?xaC ?kaf ?kaC ?kX ?qY ?zY ?yaa ?zar ?jar ?war ?xK ?yar ?xar ?xaa ?kar ?qT ?zT ?jT ?v3 ?zaj ?jaj ?waj ?jH ?vaj ?yaj ?y3 ?xaj ?kP ?qQ ?zQ ?qaM ?zaM ?jaM ?waM ?zU ?vaM ?yaM ?wan ?xaM ?w8 ?v8 ?y8 ?qas ?zas ?jas ?vas ?kK ?yas ?xas ?kaa ?kas ?vT ?yT ?xT ?qaW ?zaW ?jaW ?waW ?j4 ?vaW ?yaW ?wax ?xaW ?qag ?zag ?jag ?kaW ?qaX ?zaX ?jaX ?y4 ?waX ?vaX ?vax ?yaX ?wag ?vag ?yag ?xaX ?kaX ?qaY ?zaY ?q5 ?jaY ?waY ?yax ?vaY ?xag ?kag ?qah ?qaD ?zaD ?jaD ?waD ?jQ ?vaD ?yaD ?zah ?xaD ?jY ?wY ?vY ?za6 ?ja6 ?wa6 ?va6 ?xac ?ya6 ?xa6 ?vaJ ?ka6 ?xap ?kap ?qaq ?kaM ?qaN ?zaN ?jaN ?jU ?waN ?vaN ?van ?yaN ?q9 ?z9 ?j9 ?kaj ?qak ?zak ?jak ?wH ?wak ?vak ?z5 ?yak ?wQ ?vQ ?yQ ?vab ?yn ?yt ?kaD ?qaE ?xak ?kak ?qat ?zat ?xaN ?kaN ?zaE ?jaE ?yaY ?xaY ?qa7 ?za7 ?kaY ?qaZ ?zaZ ?jaZ ?jat ?wat ?qaO ?zaO ?waE ?vaE ?jaO ?waO ?waZ ?vaZ ?qal ?zal ?zN ?yJ ?wI ?vI ?qG ?yE ?xJ ?yI ?zG ?jG ?xE ?xI ?kJ ?qJ ?zJ ?vD ?wG ?kE ?vG ?jJ ?qC ?qF ?zC ?yD
    (case zaV => k_is)
    (case zaL => k_is)
    (case waB => k_is)
    (case xaf => k_is)
    (case yaa => k_is)
    (case v3 => k_is)
    (case qaM => k_is)
    (case qas => k_is)
    (case qaW => k_is)
    (case kaW => k_is)
    (case xaX => k_is)
    (case qaD => k_is)
    (case za6 => k_is)
    (case kaM => k_is)
    (case kaj => k_is)
    (case vab => k_is)
    (case kaV => k_is)
    (case kaL => k_is)
    (case zaC => k_is)
    (case kaC => k_is)
    (case kar => k_is)
    (case xaj => k_is)
    (case xaM => k_is)
    (case kas => k_is)
    (case xaW => k_is)
    (case yaX => k_is)
    (case vaY => k_is)
    (case xaD => k_is)
    (case ka6 => k_is)
    (case yaN => k_is)
    (case yak => k_is)
    (case jaV => k_is)
    (case jaL => k_is)
    (case vaB => k_is)
    (case jaC => k_is)
    (case zar => k_is)
    (case zaj => k_is)
    (case zaM => k_is)
    (case zas => k_is)
    (case zaW => k_is)
    (case qaX => k_is)
    (case kaX => k_is)
    (case zaD => k_is)
    (case ja6 => k_is)
    (case qaN => k_is)
    (case qak => k_is)
    (case waV => decide +kernel)
    (case waL => decide +kernel)
    (case yaB => decide +kernel)
    (case waC => decide +kernel)
    (case jar => decide +kernel)
    (case jaj => decide +kernel)
    (case jaM => decide +kernel)
    (case jas => decide +kernel)
    (case jaW => decide +kernel)
    (case zaX => decide +kernel)
    (case qaY => decide +kernel)
    (case jaD => decide +kernel)
    (case wa6 => decide +kernel)
    (case zaN => decide +kernel)
    (case zak => decide +kernel)
    (case a0 => k_is)
    (case l0 => k_is)
    (case c0 => k_is)
    (case k0 => k_is)
    (case a1 => k_is)
    (case l1 => k_is)
    (case c1 => k_is)
    (case k1 => k_is)
    (case a2 => k_is)
    (case l2 => k_is)
    (case c2 => k_is)
    (case k2 => k_is)
    (case a3 => k_is)
    (case l3 => k_is)
    (case c3 => k_is)
    (case k3 => k_is)
    (case a4 => k_is)
    (case l4 => k_is)
    (case c4 => k_is)
    (case k4 => k_is)
    (case a5 => k_is)
    (case l5 => k_is)
    (case c5 => k_is)
    (case k5 => k_is)
    (case a6 => k_is)
    (case l6 => k_is)
    (case c6 => k_is)
    (case k6 => k_is)
    (case a7 => k_is)
    (case l7 => k_is)
    (case c7 => k_is)
    (case k7 => k_is)
    (case a8 => k_is)
    (case l8 => k_is)
    (case c8 => k_is)
    (case k8 => k_is)
    (case a9 => k_is)
    (case l9 => k_is)
    (case c9 => k_is)
    (case k9 => k_is)
    (case a10 => k_is)
    (case l10 => k_is)
    (case c10 => k_is)
    (case k10 => k_is)
    (case a11 => k_is)
    (case l11 => k_is)
    (case c11 => k_is)
    (case k11 => k_is)
    (case a12 => k_is)
    (case l12 => k_is)
    (case c12 => k_is)
    (case k12 => k_is)
    (case a13 => k_is)
    (case l13 => k_is)
    (case c13 => k_is)
    (case k13 => k_is)
    (case a14 => k_is)
    (case l14 => k_is)
    (case c14 => k_is)
    (case k14 => k_is)
    (case a15 => k_is)
    (case l15 => k_is)
    (case c15 => k_is)
    (case k15 => k_is)
    (case a16 => k_is)
    (case l16 => k_is)
    (case c16 => k_is)
    (case k16 => k_is)
    (case a17 => k_is)
    (case l17 => k_is)
    (case c17 => k_is)
    (case k17 => k_is)
    (case a18 => k_is)
    (case l18 => k_is)
    (case c18 => k_is)
    (case k18 => k_is)
    (case a19 => k_is)
    (case l19 => k_is)
    (case c19 => k_is)
    (case k19 => k_is)
    (case a20 => k_is)
    (case l20 => k_is)
    (case c20 => k_is)
    (case k20 => k_is)
    (case a21 => k_is)
    (case l21 => k_is)
    (case c21 => k_is)
    (case k21 => k_is)
    (case a22 => k_is)
    (case l22 => k_is)
    (case c22 => k_is)
    (case k22 => k_is)
    (case a23 => k_is)
    (case l23 => k_is)
    (case c23 => k_is)
    (case k23 => k_is)
    (case a24 => k_is)
    (case l24 => k_is)
    (case c24 => k_is)
    (case k24 => k_is)
    (case a25 => k_is)
    (case l25 => k_is)
    (case c25 => k_is)
    (case k25 => k_is)
    (case a26 => k_is)
    (case l26 => k_is)
    (case c26 => k_is)
    (case k26 => k_is)
    (case a27 => k_is)
    (case l27 => k_is)
    (case c27 => k_is)
    (case k27 => k_is)
    (case zq => k_is)
    (case vbl => k_is)
    (case jr => k_is)
    (case ybl => k_is)
    (case vaa => k_is)
    (case v7 => k_is)
    (case xbl => k_is)
    (case ybb => k_is)
    (case jaz => k_is)
    (case qaB => k_is)
    (case jI => k_is)
    (case zcg => k_is)
    (case vbr => k_is)
    (case zaB => k_is)
    (case jaB => k_is)
    (case qaL => k_is)
    (case qar => k_is)
    (case xaU => k_is)
    (case kaU => k_is)
    (case qaV => k_is)
    (case wbg => k_is)
    (case vbg => k_is)
    (case qa6 => k_is)
    (case wbP => k_is)
    (case lI => k_is)
    (case cI => k_is)
    (case kI => k_is)
    (case tI => k_is)
    (case vaV => k_is)
    (case j3 => k_is)
    (case yaV => k_is)
    (case xaV => k_is)
    (case jax => k_is)
    (case jaf => k_is)
    (case waf => k_is)
    (case vaf => k_is)
    (case vaL => k_is)
    (case qU => k_is)
    (case yaL => k_is)
    (case xaL => k_is)
    (case jan => k_is)
    (case y7 => k_is)
    (case q8 => k_is)
    (case j8 => k_is)
    (case xaB => k_is)
    (case yP => k_is)
    (case kaB => k_is)
    (case qaC => k_is)
    (case yaf => k_is)
    (case vX => k_is)
    (case yX => k_is)
    (case xX => k_is)
    (case vaC => k_is)
    (case xP => k_is)
    (case yaC => k_is)
    (case xaC => k_is)
    (case kaf => k_is)
    (case kX => k_is)
    (case qY => k_is)
    (case zY => k_is)
    (case war => k_is)
    (case xK => k_is)
    (case yar => k_is)
    (case xar => k_is)
    (case xaa => k_is)
    (case qT => k_is)
    (case zT => k_is)
    (case jT => k_is)
    (case waj => k_is)
    (case jH => k_is)
    (case vaj => k_is)
    (case yaj => k_is)
    (case y3 => k_is)
    (case kP => k_is)
    (case qQ => k_is)
    (case zQ => k_is)
    (case waM => k_is)
    (case zU => k_is)
    (case vaM => k_is)
    (case yaM => k_is)
    (case wan => k_is)
    (case w8 => k_is)
    (case v8 => k_is)
    (case y8 => k_is)
    (case vas => k_is)
    (case kK => k_is)
    (case yas => k_is)
    (case xas => k_is)
    (case kaa => k_is)
    (case vT => k_is)
    (case yT => k_is)
    (case xT => k_is)
    (case waW => k_is)
    (case j4 => k_is)
    (case vaW => k_is)
    (case yaW => k_is)
    (case wax => k_is)
    (case qag => k_is)
    (case zag => k_is)
    (case jag => k_is)
    (case jaX => k_is)
    (case y4 => k_is)
    (case waX => k_is)
    (case vaX => k_is)
    (case vax => k_is)
    (case wag => k_is)
    (case vag => k_is)
    (case yag => k_is)
    (case zaY => k_is)
    (case q5 => k_is)
    (case jaY => k_is)
    (case waY => k_is)
    (case yax => k_is)
    (case xag => k_is)
    (case kag => k_is)
    (case qah => k_is)
    (case waD => k_is)
    (case jQ => k_is)
    (case vaD => k_is)
    (case yaD => k_is)
    (case zah => k_is)
    (case jY => k_is)
    (case wY => k_is)
    (case vY => k_is)
    (case va6 => k_is)
    (case xac => k_is)
    (case ya6 => k_is)
    (case xa6 => k_is)
    (case vaJ => k_is)
    (case xap => k_is)
    (case kap => k_is)
    (case qaq => k_is)
    (case jaN => k_is)
    (case jU => k_is)
    (case waN => k_is)
    (case vaN => k_is)
    (case van => k_is)
    (case q9 => k_is)
    (case z9 => k_is)
    (case j9 => k_is)
    (case jak => k_is)
    (case wH => k_is)
    (case wak => k_is)
    (case vak => k_is)
    (case z5 => k_is)
    (case wQ => k_is)
    (case vQ => k_is)
    (case yQ => k_is)
    (case yn => k_is)
    (case yt => k_is)
    (case kaD => k_is)
    (case qaE => k_is)
    (case xak => k_is)
    (case kak => k_is)
    (case qat => k_is)
    (case zat => k_is)
    (case xaN => k_is)
    (case kaN => k_is)
    (case zaE => k_is)
    (case jaE => k_is)
    (case yaY => k_is)
    (case xaY => k_is)
    (case qa7 => k_is)
    (case za7 => k_is)
    (case kaY => k_is)
    (case qaZ => k_is)
    (case zaZ => k_is)
    (case jaZ => k_is)
    (case jat => k_is)
    (case wat => k_is)
    (case qaO => k_is)
    (case zaO => k_is)
    (case waE => k_is)
    (case vaE => k_is)
    (case jaO => k_is)
    (case waO => k_is)
    (case waZ => k_is)
    (case vaZ => k_is)
    (case qal => k_is)
    (case zal => k_is)
    (case zN => kts_exm)
    (case yJ => kts_exm)
    (case wI => kts_exm)
    (case vI => kts_exm)
    (case qG => kts_exm)
    (case yE => kts_exm)
    (case xJ => kts_exm)
    (case yI => kts_exm)
    (case zG => kts_exm)
    (case jG => kts_exm)
    (case xE => kts_exm)
    (case xI => kts_exm)
    (case kJ => kts_exm)
    (case qJ => kts_exm)
    (case zJ => kts_exm)
    (case vD => kts_exm)
    (case wG => kts_exm)
    (case kE => kts_exm)
    (case vG => kts_exm)
    (case jJ => kts_exm)
    (case qC => kts_exm)
    (case qF => kts_exm)
    (case zC => kts_exm)
    (case yD => kts_exm)
