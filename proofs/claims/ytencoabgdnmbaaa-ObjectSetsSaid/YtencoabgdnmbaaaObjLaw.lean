/- What the laws of layer 7 have in common: their look at the chapter's example, two objects one behind the other. No condition. -/
import Derived.Test.YtencoabgdnmbaaaObject
import Derived.Test.YtencoabgdnmbaaaHeadFit
import Derived.Test.YtencoabgdnmbaaaPick
import Derived.Test.YtencoabgdnmbaaaOpen
namespace Go.Proofs.Ytencoabgdnmbaaa
open Go.ChangeShapes Go.WideShapes Go.ChangeAt Go.RowKit

set_option linter.unusedSimpArgs false
set_option linter.unusedVariables false

section
variable {w x y : World} {k : Nat} {v0 v1 v2 v3 : Value} {ty : TypeId}
theorem BlkIs.facts3 (h : BlkIs x k #[v0, v1, v2] ty) : x.cell? ⟨k, 0, none⟩ = some v0 ∧ x.cell? ⟨k, 1, none⟩ = some v1 ∧ x.cell? ⟨k, 2, none⟩ = some v2 ∧ k < x.heap.size := ⟨h.cell 0, h.cell 1, h.cell 2, h.lt⟩
theorem BlkIs.facts4 (h : BlkIs x k #[v0, v1, v2, v3] ty) :
    (x.cell? ⟨k, 0, none⟩ = some v0 ∧ x.cell? ⟨k, 1, none⟩ = some v1 ∧ x.cell? ⟨k, 2, none⟩ = some v2 ∧ x.cell? ⟨k, 3, none⟩ = some v3) ∧
    x.frozen? ⟨k, 0, none⟩ = false ∧ x.frozen? ⟨k, 1, none⟩ = false ∧ x.frozen? ⟨k, 2, none⟩ = false ∧ x.frozen? ⟨k, 3, none⟩ = false ∧ k < x.heap.size :=
  ⟨⟨h.cell 0, h.cell 1, h.cell 2, h.cell 3⟩, h.free 0, h.free 1, h.free 2, h.free 3, h.lt⟩
theorem BlkIs.on {cs : Array Value} (h : BlkIs x k cs ty) (g : Below x.heap.size x y) : BlkIs y k cs ty := h.below g h.lt
end

/-- The words of two objects, one behind the other. -/
def rowL (p d : Nat) (wk fn : Bool) (p' d' : Nat) (wk' fn' : Bool) : List Int := madeL (madeL (List.replicate 60 0) 0 p d wk fn 1) (3 + p + d) p' d' wk' fn' 2

set_option maxRecDepth 100000 in
set_option maxHeartbeats 4000000 in
theorem row_any {a0 a1 a2 b0 b1 b2 : Int} {p d p' d' : Nat} {wk fn wk' fn' : Bool} (F1 : FitIs a0 a1 a2 p d wk fn) (F2 : FitIs b0 b1 b2 p' d' wk' fn') (w : World) :
    Calls Try.prog 8 #[.agg #[.int .i64 a0, .int .i64 a1, .int .i64 a2], .agg #[.int .i64 b0, .int .i64 b1, .int .i64 b2]] w fun e w' => ∃ P b, e = .returned (.tuple #[.pointer (some ⟨P, 0, none⟩), shV p d wk fn, shV p' d' wk' fn', .int .i64 (3 + p + d : Nat)]) ∧
      ArenaAt 75 w' P b (rowL p d wk fn p' d' wk' fn') ∧ w.heap.size ≤ P ∧ w.heap.size ≤ b ∧ Below w.heap.size w w' := by
  obtain ⟨r1, p1, d1, HF1⟩ := F1
  obtain ⟨r2, p2, d2, HF2⟩ := F2
  have i1 : IntKind.i64.wrap (3 + (p : Int)) = 3 + (p : Int) := IntWalk.i64_in _ (by omega)
  unfold rowL
  obtain ⟨q, hq⟩ : ∃ q, 3 + p + d = q := ⟨_, rfl⟩
  rw [hq]
  have i2 : IntKind.i64.wrap (3 + (p : Int) + (d : Int)) = (q : Int) := by rw [IntWalk.i64_in _ (by omega)]; omega
  have hl1 : (madeL (List.replicate 60 0) 0 p d wk fn 1).length = 60 := by rw [madeL_length, List.length_replicate]
  have hl0 : (List.replicate 60 (0 : Int)).length = 60 := List.length_replicate
  go_enter Try.func8, Try.ntmps8
  go_wp2_with fail
  have hN : ∀ A B Z Y : Obj, (w.alloc A).heap.size = w.heap.size + 1 ∧ ((w.alloc A).alloc B).heap.size = w.heap.size + 2 ∧ (((w.alloc A).alloc B).alloc Z).heap.size = w.heap.size + 3 := fun A B Z Y => by simp
  have h2 := (((BlkIs.new w #[.int .i64 a0, .int .i64 a1, .int .i64 a2] 22).alloc (.cells #[.int .i64 b0, .int .i64 b1, .int .i64 b2] 22)).alloc (.cells #[.int .i64 0, .int .i64 0, .bool false, .bool false] 27)).alloc (.cells #[.int .i64 0, .int .i64 0, .bool false, .bool false] 27)
  have h3 := ((BlkIs.new (w.alloc (.cells #[.int .i64 a0, .int .i64 a1, .int .i64 a2] 22)) #[.int .i64 b0, .int .i64 b1, .int .i64 b2] 22).alloc (.cells #[.int .i64 0, .int .i64 0, .bool false, .bool false] 27)).alloc (.cells #[.int .i64 0, .int .i64 0, .bool false, .bool false] 27)
  have h4 := (BlkIs.new ((w.alloc (.cells #[.int .i64 a0, .int .i64 a1, .int .i64 a2] 22)).alloc (.cells #[.int .i64 b0, .int .i64 b1, .int .i64 b2] 22)) #[.int .i64 0, .int .i64 0, .bool false, .bool false] 27).alloc (.cells #[.int .i64 0, .int .i64 0, .bool false, .bool false] 27)
  have h5 := (BlkIs.new (((w.alloc (.cells #[.int .i64 a0, .int .i64 a1, .int .i64 a2] 22)).alloc (.cells #[.int .i64 b0, .int .i64 b1, .int .i64 b2] 22)).alloc (.cells #[.int .i64 0, .int .i64 0, .bool false, .bool false] 27)) #[.int .i64 0, .int .i64 0, .bool false, .bool false] 27)
  have hB := ((((Below.refl _ w).alloc (Nat.le_refl _) (.cells #[.int .i64 a0, .int .i64 a1, .int .i64 a2] 22)).alloc (by simp) (.cells #[.int .i64 b0, .int .i64 b1, .int .i64 b2] 22)).alloc (by simp; omega) (.cells #[.int .i64 0, .int .i64 0, .bool false, .bool false] 27)).alloc (by simp; omega) (.cells #[.int .i64 0, .int .i64 0, .bool false, .bool false] 27)
  rw [(hN _ (.cells #[] 0) (.cells #[] 0) (.cells #[] 0)).1] at h3
  rw [(hN _ _ (.cells #[] 0) (.cells #[] 0)).2.1] at h4
  rw [(hN _ _ _ (.cells #[] 0)).2.2] at h5
  obtain ⟨k5, e5⟩ : ∃ k, w.heap.size + 1 + 1 + 1 = k := ⟨_, rfl⟩
  obtain ⟨k4, e4⟩ : ∃ k, w.heap.size + 1 + 1 = k := ⟨_, rfl⟩
  obtain ⟨k3, e3⟩ : ∃ k, w.heap.size + 1 = k := ⟨_, rfl⟩
  rw [e5, e4, e3]
  rw [show w.heap.size + 3 = k5 from e5] at h5
  rw [show w.heap.size + 2 = k4 from e4] at h4
  rw [e3] at h3
  have o45 : ¬ k4 = k5 := by omega
  have ow : w.heap.size ≤ k4 ∧ w.heap.size ≤ k5 := by omega
  refine (new_any 60 _ (by omega) (by omega)).mono ?_
  rintro e x ⟨P, b, rfl, hA, hP, hb, hn⟩
  have hsb : k5 < b := Nat.lt_of_lt_of_le h5.lt hb
  have hsP : k5 < P := Nat.lt_of_lt_of_le h5.lt hP
  have hs4 : k4 < b := by omega
  have hP4 : k4 < P := by omega
  have hwb : w.heap.size ≤ b := by omega
  have hwP : w.heap.size ≤ P := by omega
  clear e3 e4 e5
  replace h2 := h2.on hn
  replace h3 := h3.on hn
  replace h4 := h4.on hn
  replace h5 := h5.on hn
  replace hB := hB.trans (hn.mono hB.size)
  clear hn hP hb hN
  obtain ⟨c0, c1, c2, l2⟩ := h2.facts3
  go_wp2_with fail
  refine (HF1 _).mono ?_
  rintro e y ⟨rfl, hb⟩
  clear c0 c1 c2 l2 h2
  replace h3 := h3.on hb
  replace h4 := h4.on hb
  replace h5 := h5.on hb
  replace hA := hA.below hb hA.lt.1 hA.lt.2
  replace hB := hB.trans (hb.mono hB.size)
  clear hb
  obtain ⟨c0, c1, c2, l2⟩ := h3.facts3
  go_wp2_with fail
  have h10 := BlkIs.new y #[.int .i64 p, .int .i64 d, .bool wk, .bool fn] 27
  have ho := (Below.refl y.heap.size y).alloc (Nat.le_refl _) (.cells #[.int .i64 p, .int .i64 d, .bool wk, .bool fn] 27)
  obtain ⟨k10, e10⟩ : ∃ k, y.heap.size = k := ⟨_, rfl⟩
  have hltA := hA.lt
  replace h4 := h4.on ho
  replace h5 := h5.on ho
  replace hA := hA.below ho hltA.1 hltA.2
  replace hB := hB.trans (ho.mono hB.size)
  have o10 : ¬ k10 = b := by omega
  have oA : ¬ k4 = k10 ∧ ¬ k5 = k10 := by have := ow; have := hltA.2; omega
  rw [e10] at h10 ⊢
  clear c0 c1 c2 l2 h3 ho hltA e10
  refine (HF2 _).mono ?_
  rintro e x ⟨rfl, hb⟩
  replace h4 := h4.on hb
  replace h5 := h5.on hb
  replace h10 := h10.on hb
  replace hA := hA.below hb hA.lt.1 hA.lt.2
  replace hB := hB.trans (hb.mono hB.size)
  clear hb y HF1 HF2
  obtain ⟨⟨c0, c1, c2, c3⟩, f0, f1, f2, f3, l1⟩ := h10.facts4
  go_wp2_with fail
  have h11 := BlkIs.new x #[.int .i64 p', .int .i64 d', .bool wk', .bool fn'] 27
  have ho := (Below.refl x.heap.size x).alloc (Nat.le_refl _) (.cells #[.int .i64 p', .int .i64 d', .bool wk', .bool fn'] 27)
  have hltA := hA.lt
  have M1 := make_yes 0 1 _ (hA.below ho hltA.1 hltA.2) r1 p1 d1 (by omega) (by omega)
  obtain ⟨k11, e11⟩ : ∃ k, x.heap.size = k := ⟨_, rfl⟩
  replace h4 := h4.on ho
  replace h5 := h5.on ho
  replace h10 := h10.on ho
  replace hB := hB.trans (ho.mono hB.size)
  have o11 : ¬ k11 = b := by omega
  have oB : ¬ k4 = k11 ∧ ¬ k5 = k11 ∧ ¬ k10 = k11 := by have := h4.lt; have := h5.lt; omega
  rw [e11] at h11 ⊢
  clear c0 c1 c2 c3 f0 f1 f2 f3 l1 ho hltA e11 hA
  refine M1.mono ?_
  rintro e z ⟨rfl, hA, hc⟩
  replace h4 := h4.chg hc (by omega)
  replace h5 := h5.chg hc (by omega)
  replace h10 := h10.chg hc o10
  replace h11 := h11.chg hc o11
  replace hB := hB.trans (hc.below (fun k e => by omega) hB.size)
  clear hc M1
  have M2 := make_yes q 2 _ hA r2 p2 d2 (by omega) (by omega)
  obtain ⟨⟨c0, c1, c2, c3⟩, f0, f1, f2, f3, l1⟩ := h11.facts4
  go_wp2_with fail
  refine M2.mono ?_
  rintro e z2 ⟨rfl, hA2, hc⟩
  replace h4 := h4.chg hc (by omega)
  replace h5 := h5.chg hc (by omega)
  replace h10 := h10.chg hc o10
  replace h11 := h11.chg hc o11
  replace hB := hB.trans (hc.below (fun k e => by omega) hB.size)
  clear hc M2 hA c0 c1 c2 c3 f0 f1 f2 f3 l1
  obtain ⟨⟨c0, c1, c2, c3⟩, f0, f1, f2, f3, l1⟩ := h10.facts4
  obtain ⟨⟨c4, c5, c6, c7⟩, f4, f5, f6, f7, l2⟩ := h11.facts4
  obtain ⟨⟨c8, c9, ca, cb⟩, f8, f9, fa, fb, l3⟩ := h4.facts4
  obtain ⟨⟨d0, d1, d2, d3⟩, g0, g1, g2, g3, l4⟩ := h5.facts4
  obtain ⟨oA1, oA2⟩ := oA
  obtain ⟨oB1, oB2, oB3⟩ := oB
  go_wp2
  go_region
  go_wp2
  have E4 := ((((((((h4.set 0 (.int .i64 p)).set 1 (.int .i64 d)).set 2 (.bool wk)).set 3 (.bool fn)).far (p := ⟨k5, 0, none⟩) o45 (.int .i64 p')).far (p := ⟨k5, 1, none⟩) o45 (.int .i64 d')).far (p := ⟨k5, 2, none⟩) o45 (.bool wk')).far (p := ⟨k5, 3, none⟩) o45 (.bool fn'))
  have o54 : ¬ k5 = k4 := fun e => o45 e.symm
  have E5 := ((((((((h5.far (p := ⟨k4, 0, none⟩) o54 (.int .i64 p)).far (p := ⟨k4, 1, none⟩) o54 (.int .i64 d)).far (p := ⟨k4, 2, none⟩) o54 (.bool wk)).far (p := ⟨k4, 3, none⟩) o54 (.bool fn)).set 0 (.int .i64 p')).set 1 (.int .i64 d')).set 2 (.bool wk')).set 3 (.bool fn'))
  have EC := ((((((((Chg.refl (fun k => k = k4 ∨ k = k5) z2).setCell (p := ⟨k4, 0, none⟩) (.inl (.inl rfl)) (.int .i64 p)).setCell (p := ⟨k4, 1, none⟩) (.inl (.inl rfl)) (.int .i64 d)).setCell (p := ⟨k4, 2, none⟩) (.inl (.inl rfl)) (.bool wk)).setCell (p := ⟨k4, 3, none⟩) (.inl (.inl rfl)) (.bool fn)).setCell (p := ⟨k5, 0, none⟩) (.inl (.inr rfl)) (.int .i64 p')).setCell (p := ⟨k5, 1, none⟩) (.inl (.inr rfl)) (.int .i64 d')).setCell (p := ⟨k5, 2, none⟩) (.inl (.inr rfl)) (.bool wk')).setCell (p := ⟨k5, 3, none⟩) (.inl (.inr rfl)) (.bool fn')
  have EB := (((((((hB.setCell (p := ⟨k4, 0, none⟩) ow.1 (.int .i64 p)).setCell (p := ⟨k4, 1, none⟩) ow.1 (.int .i64 d)).setCell (p := ⟨k4, 2, none⟩) ow.1 (.bool wk)).setCell (p := ⟨k4, 3, none⟩) ow.1 (.bool fn)).setCell (p := ⟨k5, 0, none⟩) ow.2 (.int .i64 p')).setCell (p := ⟨k5, 1, none⟩) ow.2 (.int .i64 d')).setCell (p := ⟨k5, 2, none⟩) ow.2 (.bool wk')).setCell (p := ⟨k5, 3, none⟩) ow.2 (.bool fn')
  have hA3 := hA2.chg EC (by rintro (h | h) <;> omega) (by rintro (h | h) <;> omega)
  obtain ⟨⟨u0, u1, u2, u3⟩, _⟩ := E4.facts4
  obtain ⟨⟨u4, u5, u6, u7⟩, _⟩ := E5.facts4
  refine bodyPost_ret (v := .tuple #[.pointer (some ⟨P, 0, none⟩), shV p d wk fn, shV p' d' wk' fn', .int .i64 q]) ?_ rfl ⟨P, b, rfl, hA3.drew, hwP, hwb, EB.drew⟩
  clear EB EC hA3 E4 E5 hA2 hB h4 h5 h10 h11 c0 c1 c2 c3 c4 c5 c6 c7 c8 c9 ca cb d0 d1 d2 d3 f0 f1 f2 f3 f4 f5 f6 f7 f8 f9 fa fb g0 g1 g2 g3 l1 l2 l3 l4
  generalize (z2.setCell _ _).setCell _ _ = V at *
  simp [results, Try.f8, go_sem, u0, u1, u2, u3, u4, u5, u6, u7]

/-- Where a word is 0 there is no object. -/
theorem shape_none {P b : Nat} {l : List Int} (a : Nat) (w : World) (h : ArenaAt 75 w P b l) (ha : a < l.length) (h0 : l.getD a 0 = 0) :
    Calls Try.prog 13 #[.pointer (some ⟨P, 0, none⟩), .int .i64 a] w fun e w' => e = .returned (.tuple #[shV 0 0 false false, .bool false, .int .i64 70]) ∧ Below w.heap.size w w' := by
  have hlt := h.lt
  have HL := load_there a _ (h.below ((Below.refl _ w).alloc (Nat.le_refl _) (.cells #[.int .i64 0, .int .i64 0, .bool false, .bool false] 27)) hlt.1 hlt.2) ha
  rw [h0] at HL
  have HS : ∀ w, Calls Try.prog 32 #[.int .u64 0] w fun e w' => e = .returned (.tuple #[shV 0 0 false false, .bool false, .bool false]) ∧ Below w.heap.size w w' := fun w => shape_any 0 (by decide) w
  have HZ : ∀ w, Calls Try.prog 34 #[shV 0 0 false false] w fun e w' => e = .returned (.tuple #[.int .i64 3, .bool true]) ∧ Below w.heap.size w w' := fun w => size_yes 0 0 false false (by decide) (by decide) (by decide) w
  have hT := ResAt.new w #[.int .i64 0, .int .i64 0, .bool false, .bool false] 27
  go_enter Try.func13, Try.ntmps13
  go_wp2_with fail
  refine HL.mono ?_
  rintro e x ⟨rfl, rfl⟩
  go_wp2_with fail
  refine (HS _).mono ?_
  rintro e x ⟨rfl, hb⟩
  replace hT := hT.keep hb
  clear hb
  obtain ⟨⟨c0, c1, c2, c3⟩, f0, f1, f2, f3, l1⟩ := hT.facts4
  go_wp2_with fail
  replace hT := (((hT.set 0 (.int .i64 0)).set 1 (.int .i64 0)).set 2 (.bool false)).set 3 (.bool false)
  clear c0 c1 c2 c3 f0 f1 f2 f3 l1
  refine (HZ _).mono ?_
  rintro e y ⟨rfl, hb⟩
  replace hT := hT.keep hb
  clear hb HL HS HZ
  obtain ⟨⟨c0, c1, c2, c3⟩, f0, f1, f2, f3, l1⟩ := hT.facts4
  go_wp2
  replace hT := (((hT.set 0 (.int .i64 0)).set 1 (.int .i64 0)).set 2 (.bool false)).set 3 (.bool false)
  obtain ⟨⟨e0, e1, e2, e3⟩, _⟩ := hT.facts4
  refine bodyPost_ret (v := .tuple #[shV 0 0 false false, .bool false, .int .i64 70]) ?_ rfl ⟨rfl, hT.below⟩
  simp [results, Try.f13, go_sem, e0, e1, e2, e3]

def exA : List Int := [35, 0, 7, 0, 0, 0, 0, 0, 0]
def exB : List Int := [35, 0, 7, 0, 5, 0, 0, 0, 0]
theorem exA_obj : ObjIs exA 0 1 1 false false false := ⟨by decide, by decide, by decide, by decide, by decide⟩
theorem exB_obj : ObjIs exB 0 1 1 false false false := ⟨by decide, by decide, by decide, by decide, by decide⟩

set_option maxRecDepth 100000 in
set_option maxHeartbeats 4000000 in
theorem awake_yes (w : World) : Calls Try.prog 7 #[] w fun e w' => e = .returned (.bool true) ∧ Below w.heap.size w w' := by
  go_enter Try.func7, Try.ntmps7
  go_wp2_with fail
  refine (new_any 9 _ (by omega) (by omega)).mono ?_
  rintro e x1 ⟨P, b, rfl, hA, hP, hb, hB⟩
  have M1 : Calls Try.prog 20 #[.pointer (some ⟨P, 0, none⟩), .int .i64 0, shV 1 1 false false, .int .i64 7] x1 fun e w' => e = .returned (.int .i64 0) ∧ ArenaAt 75 w' P b exA ∧ Chg (· = b) x1 w' :=
    make_yes 0 7 x1 hA (by decide) (by decide) (by decide) (by decide) (by decide)
  clear hA hP
  go_wp2_with fail
  refine M1.mono ?_
  rintro e x2 ⟨rfl, hA, hc⟩
  replace hB := hB.trans (hc.below (fun k e => by omega) hB.size)
  clear M1 hc
  have M1 : Calls Try.prog 11 #[.pointer (some ⟨P, 0, none⟩), .int .i64 0, .int .i64 0, .int .i64 (-3)] x2 fun e w' => e = .returned (.int .i64 0) ∧ ArenaAt 75 w' P b exB ∧ Chg (· = b) x2 w' :=
    setNum_at 0 0 (-3) x2 hA exA_obj (by decide) (by decide) (by decide)
  clear hA
  go_wp2_with fail
  refine M1.mono ?_
  rintro e x3 ⟨rfl, hA, hc⟩
  replace hB := hB.trans (hc.below (fun k e => by omega) hB.size)
  clear M1 hc
  have M1 : Calls Try.prog 16 #[.pointer (some ⟨P, 0, none⟩), .int .i64 0, .int .i64 0] x3 fun e w' => e = .returned (.tuple #[.int .i64 (-3), .int .i64 0]) ∧ Below x3.heap.size x3 w' :=
    num_at 0 0 (-3) x3 hA exB_obj (by decide) (by decide) (by decide) (by decide)
  go_wp2_with fail
  refine M1.mono ?_
  rintro e x4 ⟨rfl, hn⟩
  replace hA := hA.below hn hA.lt.1 hA.lt.2
  replace hB := hB.trans (hn.mono hB.size)
  clear M1 hn
  have M1 : Calls Try.prog 14 #[.pointer (some ⟨P, 0, none⟩), .int .i64 0] x4 fun e w' => e = .returned (.tuple #[.int .i64 7, .int .i64 0]) ∧ Below x4.heap.size x4 w' :=
    serial_at 0 x4 hA exB_obj (by decide)
  go_wp2_with fail
  refine M1.mono ?_
  rintro e x5 ⟨rfl, hn⟩
  replace hA := hA.below hn hA.lt.1 hA.lt.2
  replace hB := hB.trans (hn.mono hB.size)
  clear M1 hn
  have M1 : Calls Try.prog 21 #[.pointer (some ⟨P, 0, none⟩), .int .i64 0] x5 fun e w' => e = .returned (.tuple #[.int .u64 35, .int .i64 0]) ∧ x5 = w' :=
    load_there 0 x5 hA (by decide)
  go_wp2_with fail
  refine M1.mono ?_
  rintro e x5 ⟨rfl, rfl⟩
  clear M1
  have M1 : Calls Try.prog 15 #[.pointer (some ⟨P, 0, none⟩), .int .i64 0, .int .i64 1] x5 fun e w' => e = .returned (.tuple #[.int .i64 0, .int .i64 71]) ∧ Below x5.heap.size x5 w' :=
    ptr_no 0 1 x5 hA exB_obj (by decide) (by decide) (by decide)
  go_wp2_with fail
  refine M1.mono ?_
  rintro e x6 ⟨rfl, hn⟩
  replace hA := hA.below hn hA.lt.1 hA.lt.2
  replace hB := hB.trans (hn.mono hB.size)
  clear M1 hn
  have M1 : Calls Try.prog 13 #[.pointer (some ⟨P, 0, none⟩), .int .i64 1] x6 fun e w' => e = .returned (.tuple #[shV 0 0 false false, .bool false, .int .i64 70]) ∧ Below x6.heap.size x6 w' :=
    shape_none 1 x6 hA (by decide) (by decide)
  go_wp2_with fail
  refine M1.mono ?_
  rintro e x7 ⟨rfl, hn⟩
  replace hB := hB.trans (hn.mono hB.size)
  clear M1 hn hA
  go_wp2
  go_ret
  exact ⟨rfl, hB.alloc hB.size _⟩

end Go.Proofs.Ytencoabgdnmbaaa
