/- Layer 9's laws' look at the chapter's example; a place where there is no object; objects that Link has turned to one another. No condition. -/
import Derived.Test.YtceedbkacbaaiaaGraphLink
namespace Go.Proofs.Ytceedbkacbaaiaa
open Go.ChangeShapes Go.WideShapes Go.ChangeAt Go.RowKit

set_option linter.unusedSimpArgs false
set_option linter.unusedVariables false

theorem NodesAt.same {B n : Nat} {w : World} {v : Value} {f f' : Nat → Nd} (h : NodesAt B w v f n) (e : ∀ i, i < n → f i = f' i) : NodesAt B w v f' n := by
  obtain ⟨av, c, e1, r⟩ := h
  refine ⟨av, c, e1, fun hn => ?_⟩
  obtain ⟨nb, e2, hb, hl, hc', hr⟩ := r hn
  exact ⟨nb, e2, hb, hl, hc', fun i hi => e i hi ▸ hr i hi⟩
section
variable {P b : Nat} {l : List Int}
set_option maxHeartbeats 1000000 in
theorem shape_none0 (a : Nat) (w : World) (h : ArenaAt 65 w P b l) (ha : a < l.length) (h0 : l.getD a 0 = 0) :
    Calls Try.prog 19 #[.pointer (some ⟨P, 0, none⟩), .int .i64 a] w fun e w' => e = .returned (.tuple #[shV 0 0 false false, .bool false, .int .i64 70]) ∧ Below w.heap.size w w' := by
  have hl := h.len
  have hlt := h.lt
  have HL := load_there a _ (h.below ((Below.refl _ w).alloc (Nat.le_refl _) (.cells #[.int .i64 0, .int .i64 0, .bool false, .bool false] 51)) hlt.1 hlt.2) (by omega)
  rw [h0] at HL
  have HS : ∀ w, Calls Try.prog 42 #[.int .u64 0] w fun e w' => e = .returned (.tuple #[shV 0 0 false false, .bool false, .bool false]) ∧ Below w.heap.size w w' := fun w => shape_any 0 (by omega) w
  have HZ : ∀ w, Calls Try.prog 43 #[shV 0 0 false false] w fun e w' => e = .returned (.tuple #[.int .i64 3, .bool true]) ∧ Below w.heap.size w w' := fun w => size_yes 0 0 false false rfl (by omega) (by omega) w
  have hT := ResAt.new w #[.int .i64 0, .int .i64 0, .bool false, .bool false] 51
  go_enter Try.func19, Try.ntmps19
  go_wp2_with fail
  refine HL.mono ?_
  rintro e x ⟨rfl, rfl⟩
  go_wp2_with fail
  refine (HS _).mono ?_
  rintro e x ⟨rfl, hb⟩
  replace hT := hT.keep hb
  clear hb
  obtain ⟨⟨c0, c1, c2, c3⟩, f0, f1, f2, f3, l1⟩ := hT.facts4
  go_wp2_with fail
  replace hT := (((hT.set 0 (.int .i64 0)).set 1 (.int .i64 0)).set 2 (.bool false)).set 3 (.bool false)
  clear c0 c1 c2 c3 f0 f1 f2 f3 l1
  refine (HZ _).mono ?_
  rintro e y ⟨rfl, hb⟩
  replace hT := hT.keep hb
  clear hb HL HS HZ
  have HE := len_any _ (h.below hT.below hlt.1 hlt.2)
  obtain ⟨⟨c0, c1, c2, c3⟩, f0, f1, f2, f3, l1⟩ := hT.facts4
  go_wp2_with fail
  replace hT := (((hT.set 0 (.int .i64 0)).set 1 (.int .i64 0)).set 2 (.bool false)).set 3 (.bool false)
  obtain ⟨⟨e0, e1, e2, e3⟩, _⟩ := hT.facts4
  refine bodyPost_ret (v := .tuple #[shV 0 0 false false, .bool false, .int .i64 70]) ?_ rfl ⟨rfl, hT.below⟩
  simp [results, Try.f19, go_sem, e0, e1, e2, e3]

theorem strong_none0 (a : Nat) (w : World) (h : ArenaAt 65 w P b l) (ha : a < l.length) (h0 : l.getD a 0 = 0) :
    Calls Try.prog 12 #[.pointer (some ⟨P, 0, none⟩), .int .i64 a] w fun e w' => e = .returned (.tuple #[.slice none 0 0, .int .i64 70]) ∧ Below w.heap.size w w' := by
  have HS := shape_none0 a w h ha h0
  have HC : Calls Try.prog 32 #[.pointer (some ⟨P, 0, none⟩), .int .i64 a] w fun e w' => e = .returned (.tuple #[.int .i64 0, .int .i64 70]) ∧ Below w.heap.size w w' := by
    go_enter Try.func32, Try.ntmps32
    go_wp2_with fail
    refine HS.mono ?_
    rintro e x ⟨rfl, hb⟩
    have hB := hb.alloc hb.size (.cells #[.int .i64 0, .int .i64 0, .bool false, .bool false] 51)
    go_wp2
    go_ret2
    exact ⟨rfl, hB⟩
  clear HS h ha h0
  go_enter Try.func12, Try.ntmps12
  go_wp2_with fail
  refine HC.mono ?_
  rintro e x ⟨rfl, hb⟩
  go_wp2
  go_ret2
  exact ⟨rfl, hb⟩

set_option maxRecDepth 100000 in
set_option maxHeartbeats 4000000 in
theorem reach_none0 (a : Nat) (rv : Value) (w : World) (h : ArenaAt 65 w P b l) (ha : a < l.length) (h0 : l.getD a 0 = 0) (hv : ReadsAs .i64 w rv [(a : Int)]) (ha0 : 0 < a) :
    Calls Try.prog 31 #[.pointer (some ⟨P, 0, none⟩), rv] w fun e w' => e = .returned (.tuple #[.agg #[.slice none 0 0, .map none], .int .i64 70]) ∧ Below w.heap.size w w' := by
  have hmm := @run_makeMap Try.prog
  have hlt := h.lt
  have hal := h.len
  go_enter Try.func31, Try.ntmps31
  go_wp2_with fail
  have s1 : (w.alloc (.cells #[.slice none 0 0, .map none] 76)).heap.size = w.heap.size + 1 := by simp
  have s2 : ((w.alloc (.cells #[.slice none 0 0, .map none] 76)).alloc (.map #[] 0)).heap.size = w.heap.size + 2 := by simp
  have k4 := ((BlkIs.new w #[.slice none 0 0, .map none] 76).alloc (.map #[] 0)).alloc (.cells #[.slice none 0 0, .map (some (w.heap.size + 1))] 76)
  have k6 := BlkIs.new ((w.alloc (.cells #[.slice none 0 0, .map none] 76)).alloc (.map #[] 0)) #[.slice none 0 0, .map (some (w.heap.size + 1))] 76
  have km := (IMap.new (w.alloc (.cells #[.slice none 0 0, .map none] 76))).on ((Below.refl _ _).alloc (Nat.le_refl _) (.cells #[.slice none 0 0, .map (some (w.heap.size + 1))] 76))
  have hB := (((Below.refl w.heap.size w).alloc (Nat.le_refl _) (.cells #[.slice none 0 0, .map none] 76)).alloc (by omega) (.map #[] 0)).alloc (by omega) (.cells #[.slice none 0 0, .map (some (w.heap.size + 1))] 76)
  rw [s1] at km
  rw [s2] at k6
  generalize ((w.alloc (.cells #[.slice none 0 0, .map none] 76)).alloc (.map #[] 0)).alloc (.cells #[.slice none 0 0, .map (some (w.heap.size + 1))] 76) = x0 at *
  have hF : FoundAt w.heap.size x0 (w.heap.size + 2) (w.heap.size + 1) (.slice none 0 0) [] := ⟨k6, km, ⟨rfl, .inl ⟨rfl, rfl⟩⟩⟩
  have M1 := add_any (w.heap.size + 2) (w.heap.size + 1) w.heap.size _ rv [] [(a : Int)] x0 hF hB.size (hv.below hB) (by simp) (fun x hx => by have h1 : x = (a : Int) := (by simpa using hx); omega) (fun g h1 h2 => by simp [Value.ownBlock] at h2)
  have e1 : addO [] [(a : Int)] = [(a : Int)] := by
    unfold addO add1
    simp
    omega
  rw [e1] at M1
  have hf4 := hF.far k4 (by omega)
  have hS0 : ∀ k, AddS (w.heap.size + 2) (w.heap.size + 1) (.slice none 0 0) k → w.heap.size ≤ k := fun k => hF.addS (by omega) (by omega) (Nat.le_refl _)
  refine M1.mono ?_
  rintro e x1 ⟨ov, rfl, hF1, hc⟩
  clear M1 km k6 hF s1 s2
  replace k4 := k4.chg hc hf4
  replace hB := hB.trans (hc.below hS0 hB.size)
  clear hS0 hf4 hc hv x0 e1
  obtain ⟨g, cap, hov, hg0, hg1, hg2, hg3, hg4, hgc⟩ := own_cell hF1.own (by simp)
  have hgk : x1.cell? ⟨g, 0, none⟩ = some (.int .i64 a) := hgc 0 (by simp)
  have hF0 : x1.cell? ⟨w.heap.size + 2, 0, none⟩ = some ov := hF1.blk.cell 0
  have hF0' : x1.cell? ⟨w.heap.size + 1 + 1, 0, none⟩ = some ov := hF1.blk.cell 0
  rw [hov] at hF0 hF0'
  simp only [List.length_cons, List.length_nil, Nat.zero_add] at hF0 hF0'
  clear hgc hov hF1
  have M2 := strong_none0 a x1 (h.below hB hlt.1 hlt.2) ha h0
  go_wp2
  refine wp_loop_rounds 1 ?_
  rw [rounds_succ]
  go_wp2_with fail
  refine M2.mono ?_
  rintro e x2 ⟨rfl, hb⟩
  clear M2 hgk hF0 hF0'
  replace k4 := k4.on hb
  replace hB := hB.trans (hb.mono hB.size)
  have h40 : x2.cell? ⟨w.heap.size, 0, none⟩ = some (.slice none 0 0) := k4.cell 0
  have h41 : x2.cell? ⟨w.heap.size, 1, none⟩ = some (.map none) := k4.cell 1
  have g0 := k4.free 0
  have g1 := k4.free 1
  have hE := (k4.set 0 (.slice none 0 0)).set 1 (.map none)
  have e0 := hE.cell 0
  have e1 := hE.cell 1
  go_wp2
  refine bodyPost_ret (v := .tuple #[.agg #[.slice none 0 0, .map none], .int .i64 70]) ?_ rfl ⟨rfl, ?_⟩
  · simp [results, Try.f31, go_sem, e0, e1]
  · exact (hB.setCell (p := ⟨w.heap.size, 0, none⟩) (Nat.le_refl _) _).setCell (p := ⟨w.heap.size, 1, none⟩) (Nat.le_refl _) _

theorem Reach_none0 (a : Nat) (rv : Value) (w : World) (h : ArenaAt 65 w P b l) (ha : a < l.length) (h0 : l.getD a 0 = 0) (hv : ReadsAs .i64 w rv [(a : Int)]) (ha0 : 0 < a) :
    Calls Try.prog 11 #[.pointer (some ⟨P, 0, none⟩), rv] w fun e w' => e = .returned (.tuple #[.slice none 0 0, .int .i64 70]) ∧ Below w.heap.size w w' := by
  have M1 := reach_none0 a rv w h ha h0 hv ha0
  go_enter Try.func11, Try.ntmps11
  go_wp2_with fail
  refine M1.mono ?_
  rintro e x ⟨rfl, hB⟩
  have hB2 := hB.alloc hB.size (.cells #[.slice none 0 0, .map none] 76)
  go_wp2
  go_ret2
  exact ⟨rfl, hB2⟩
end

def exG : List Int := (madeL (List.replicate 20 0) 1 1 0 false false 4).set 4 1
set_option maxRecDepth 100000 in
theorem exG_obj : ObjIs exG 1 1 0 false false false := ⟨by decide, by decide, by decide, by decide, by decide⟩
set_option maxRecDepth 100000 in
theorem exG_tells : exG.length = 20 ∧ exG.getD 2 0 = 0 ∧ exG.getD 3 0 = 4 ∧ exG.getD 4 0 = 1 := by decide
theorem exG_v : ObjV exG [1] := by
  refine ⟨fun x hx => ⟨1, 1, 0, false, false, false, by simpa using hx, by omega, exG_obj, ?_, fun i hi => ?_⟩, by simp⟩
  · show 0 ≤ exG.getD 3 0 ∧ exG.getD 3 0 ≤ _
    rw [exG_tells.2.2.1]; decide
  · obtain rfl : i = 0 := by omega
    show exG.getD 4 0 = 0 ∨ exG.getD 4 0 ∈ _
    rw [exG_tells.2.2.2]; exact .inr (by simp)
theorem exG_g : gOf exG 1 = [1] := by
  have h := gOf_obj exG_obj
  rw [show ((1 : Nat) : Int) = 1 from rfl] at h
  rw [h]
  show [exG.getD 4 0] = [1]
  rw [exG_tells.2.2.2]
theorem exG_r1 : reachO (gOf exG) [(1 : Int)].length [1, 0] = [1] := by
  show goO (gOf exG) 1 (addO [] [1, 0]) 0 = [1]
  have e : addO [] [1, 0] = [1] := by decide
  rw [e]
  show addO [1] (gOf exG 1) = [1]
  rw [exG_g]; decide
theorem exG_r2 : reachO (gOf exG) [(1 : Int)].length [0, 1, 1] = [1] := by
  show goO (gOf exG) 1 (addO [] [0, 1, 1]) 0 = [1]
  have e : addO [] [0, 1, 1] = [1] := by decide
  rw [e]
  show addO [1] (gOf exG 1) = [1]
  rw [exG_g]; decide
theorem exG_n : ndO [1] (nOf exG 1) = ⟨4, 1, 0, false, false, false, [0], []⟩ := by
  have h := nOf_obj exG_obj
  rw [show ((1 : Nat) : Int) = 1 from rfl] at h
  rw [h]
  show (⟨exG.getD 3 0, 1, 0, false, false, false, [rankV [1] (exG.getD 4 0)], []⟩ : Nd) = _
  rw [exG_tells.2.2.1, exG_tells.2.2.2]
  rfl

/-- A slice literal of numbers. -/
theorem readsAs_lit {w : World} {g : Nat} {xs : List Int} (h : BlkIs w g (xs.map (Value.int .i64)).toArray 3) (hl : xs.length ≤ 100) : ReadsAs .i64 w (.slice (some ⟨g, 0, none⟩) xs.length xs.length) xs :=
  (readsFrom_blk (B := 0) h rfl (Nat.zero_le _) (by omega)).1

set_option maxRecDepth 100000 in
set_option maxHeartbeats 8000000 in
theorem awake_yes (w : World) : Calls Try.prog 6 #[] w fun e w' => e = .returned (.bool true) ∧ Below w.heap.size w w' := by
  go_enter Try.func6, Try.ntmps6
  go_wp2_with fail
  refine (new_any 20 _ (by omega) (by omega)).mono ?_
  rintro e x1 ⟨P, b, rfl, hA, hP, hb, hB⟩
  have M1 : Calls Try.prog 24 #[.pointer (some ⟨P, 0, none⟩), .int .i64 1, .agg #[.int .i64 1, .int .i64 0, .bool false, .bool false], .int .i64 4] x1 fun e w' => e = .returned (.int .i64 0) ∧ ArenaAt 65 w' P b (madeL (List.replicate 20 0) 1 1 0 false false 4) ∧ Chg (· = b) x1 w' :=
    make_yes 1 4 x1 hA (by decide) (by decide) (by decide) (by decide) (by decide)
  clear hA
  go_wp2_with fail
  refine M1.mono ?_
  rintro e x2 ⟨rfl, hA, hc⟩
  replace hB := hB.trans (hc.below (fun k e => by omega) hB.size)
  clear M1 hc
  have M1 : Calls Try.prog 21 #[.pointer (some ⟨P, 0, none⟩), .int .i64 1, .int .i64 0, .int .i64 1] x2 fun e w' => e = .returned (.int .i64 0) ∧ ArenaAt 65 w' P b exG ∧ Chg (· = b) x2 w' :=
    setPtr_at 1 0 1 x2 hA (madeL_obj (l := List.replicate 20 0) (a := 1) (p := 1) (d := 0) (wk := false) (fn := false) 4 (by decide) (by decide) (by decide) (by decide)) (by decide) (by decide)
  go_wp2_with fail
  refine M1.mono ?_
  rintro e x3 ⟨rfl, hA3, hc⟩
  replace hB := hB.trans (hc.below (fun k e => by omega) hB.size)
  clear M1 hc hA
  have hl3 := hA3.lt
  have r1 := readsAs_lit (xs := [1, 0]) (BlkIs.new x3 #[.int .i64 1, .int .i64 0] 3) (by decide)
  have hb1 := (Below.refl x3.heap.size x3).alloc (Nat.le_refl _) (.cells #[.int .i64 1, .int .i64 0] 3)
  go_wp2_with fail
  generalize x3.alloc (.cells #[.int .i64 1, .int .i64 0] 3) = y0 at *
  have hA := hA3.below hb1 hl3.1 hl3.2
  replace hB := hB.trans (hb1.mono hB.size)
  generalize x3.heap.size = g0 at *
  have M1 := canon_any P b exG [1] (gOf exG) (nOf exG) _ [1, 0] y0 (grph_of exG_v (by rw [exG_tells.1]; decide)) (nods_of exG_v (by rw [exG_tells.1]; decide)) hA r1 (by simp) (by decide)
  rw [exG_r1] at M1
  clear hb1 r1 hl3 hA3
  refine M1.mono ?_
  rintro e y1 ⟨nv, sv, rfl, hN, hs, hb⟩
  clear M1
  replace hN : NodesAt y0.heap.size y1 nv (fun _ => ⟨4, 1, 0, false, false, false, [0], []⟩) 1 := hN.same fun i hi => by
    obtain rfl : i = 0 := by have : i < 1 := hi; omega
    exact exG_n
  replace hs : ReadsAs .i64 y1 sv [0, -1] := hs.1
  replace hA := hA.below hb hA.lt.1 hA.lt.2
  replace hB := hB.trans (hb.mono hB.size)
  generalize y0.heap.size = B0 at *
  clear hb y0
  have hl3 := hA.lt
  have r1 := readsAs_lit (xs := [0, 1, 1]) (BlkIs.new y1 #[.int .i64 0, .int .i64 1, .int .i64 1] 3) (by decide)
  have hb1 := (Below.refl y1.heap.size y1).alloc (Nat.le_refl _) (.cells #[.int .i64 0, .int .i64 1, .int .i64 1] 3)
  go_wp2_with fail
  generalize y1.alloc (.cells #[.int .i64 0, .int .i64 1, .int .i64 1] 3) = y2 at *
  replace hA := hA.below hb1 hl3.1 hl3.2
  replace hB := hB.trans (hb1.mono hB.size)
  replace hN := hN.on hb1
  replace hs := hs.below hb1
  generalize y1.heap.size = g1 at *
  have M1 := Reach_any P b exG [1] (gOf exG) _ [0, 1, 1] y2 (grph_of exG_v (by rw [exG_tells.1]; decide)) hA r1 (by simp) (by decide)
  rw [exG_r2] at M1
  clear hb1 r1 hl3 y1
  refine M1.mono ?_
  rintro e y3 ⟨tv, rfl, ht, hb⟩
  clear M1
  replace ht : ReadsAs .i64 y3 tv [1] := readsAs_of_owns ht
  replace hA := hA.below hb hA.lt.1 hA.lt.2
  replace hB := hB.trans (hb.mono hB.size)
  replace hN := hN.on hb
  replace hs := hs.below hb
  clear hb y2
  have hl3 := hA.lt
  have r1 := readsAs_lit (xs := [2]) (BlkIs.new y3 #[.int .i64 2] 3) (by decide)
  have hb1 := (Below.refl y3.heap.size y3).alloc (Nat.le_refl _) (.cells #[.int .i64 2] 3)
  go_wp2_with fail
  generalize y3.alloc (.cells #[.int .i64 2] 3) = y4 at *
  replace hA := hA.below hb1 hl3.1 hl3.2
  replace hB := hB.trans (hb1.mono hB.size)
  replace hN := hN.on hb1
  replace hs := hs.below hb1
  replace ht := ht.below hb1
  generalize y3.heap.size = g2 at *
  have M1 := Reach_none0 2 _ y4 hA (by rw [exG_tells.1]; decide) exG_tells.2.1 r1 (by decide)
  clear hb1 r1 hl3 y3
  refine M1.mono ?_
  rintro e y5 ⟨rfl, hb⟩
  clear M1
  replace hB := hB.trans (hb.mono hB.size)
  replace hN := hN.on hb
  replace hs := hs.below hb
  replace ht := ht.below hb
  clear hb y4 hA
  have k1 := (BlkIs.new y5 #[.int .i64 0] 3).alloc (.cells #[.int .i64 4, .int .i64 1, .int .i64 0, .bool false, .bool false, .bool false, .slice (some ⟨y5.heap.size, 0, none⟩) 1 1, .slice none 0 0] 62)
  have k2 := BlkIs.new (y5.alloc (.cells #[.int .i64 0] 3)) #[.int .i64 4, .int .i64 1, .int .i64 0, .bool false, .bool false, .bool false, .slice (some ⟨y5.heap.size, 0, none⟩) 1 1, .slice none 0 0] 62
  have hs2 : (y5.alloc (.cells #[.int .i64 0] 3)).heap.size = y5.heap.size + 1 := by simp
  have hb1 := ((Below.refl y5.heap.size y5).alloc (Nat.le_refl _) (.cells #[.int .i64 0] 3)).alloc (by omega) (.cells #[.int .i64 4, .int .i64 1, .int .i64 0, .bool false, .bool false, .bool false, .slice (some ⟨y5.heap.size, 0, none⟩) 1 1, .slice none 0 0] 62)
  rw [hs2] at k2
  replace hB := hB.trans (hb1.mono hB.size)
  replace hN := hN.on hb1
  replace hs := hs.below hb1
  replace ht := ht.below hb1
  go_wp2_with fail
  generalize (y5.alloc (.cells #[.int .i64 0] 3)).alloc (.cells #[.int .i64 4, .int .i64 1, .int .i64 0, .bool false, .bool false, .bool false, .slice (some ⟨y5.heap.size, 0, none⟩) 1 1, .slice none 0 0] 62) = y6 at *
  clear hb1 hs2
  generalize y5.heap.size = g3 at *
  have hL : NodesAt 0 y6 (.slice (some ⟨g3 + 1, 0, none⟩) 1 1) (fun _ => ⟨4, 1, 0, false, false, false, [0], []⟩) 1 := by
    obtain ⟨c0, c1, c2, c3, c4, c5, c6, c7, -⟩ := k2.facts8
    refine ⟨_, _, rfl, fun _ => ⟨g3 + 1, rfl, Nat.zero_le _, k2.lt, Nat.le_refl _, fun i hi => ?_⟩⟩
    obtain rfl : i = 0 := by omega
    exact ⟨_, _, ⟨c0, c1, c2, c3, c4, c5, c6, c7⟩, ⟨readsAs_lit (xs := [0]) k1 (by decide), fun _ _ => Nat.zero_le _⟩, ⟨⟨by decide, .inl ⟨rfl, 0, rfl⟩⟩, fun _ _ => Nat.zero_le _⟩⟩
  refine (same_yes B0 0 1 nv _ _ y6 hN hL (by decide)).mono ?_
  rintro e y7 ⟨rfl, hb⟩
  replace hB := hB.trans (hb.mono hB.size)
  replace hN := hN.on hb
  replace hs := hs.below hb
  replace ht := ht.below hb
  clear hb hL k1 k2 y5 y6
  have r1 := readsAs_lit (xs := [0, -1]) (BlkIs.new y7 #[.int .i64 0, .int .i64 (-1)] 3) (by decide)
  have hb1 := (Below.refl y7.heap.size y7).alloc (Nat.le_refl _) (.cells #[.int .i64 0, .int .i64 (-1)] 3)
  replace hB := hB.trans (hb1.mono hB.size)
  replace hN := hN.on hb1
  replace hs := hs.below hb1
  replace ht := ht.below hb1
  go_wp2_with fail
  generalize y7.alloc (.cells #[.int .i64 0, .int .i64 (-1)] 3) = y8 at *
  clear hb1
  generalize y7.heap.size = g4 at *
  refine (ints_same sv _ [0, -1] y8 hs r1).mono ?_
  rintro e y9 ⟨rfl, hb⟩
  replace hB := hB.trans (hb.mono hB.size)
  replace hN := hN.on hb
  replace ht := ht.below hb
  clear hb r1 hs y7 y8
  have r1 := readsAs_lit (xs := [1]) (BlkIs.new y9 #[.int .i64 1] 3) (by decide)
  have hb1 := (Below.refl y9.heap.size y9).alloc (Nat.le_refl _) (.cells #[.int .i64 1] 3)
  replace hB := hB.trans (hb1.mono hB.size)
  replace hN := hN.on hb1
  replace ht := ht.below hb1
  go_wp2_with fail
  generalize y9.alloc (.cells #[.int .i64 1] 3) = z1 at *
  clear hb1
  generalize y9.heap.size = g5 at *
  refine (ints_same tv _ [1] z1 ht r1).mono ?_
  rintro e z2 ⟨rfl, hb⟩
  replace hB := hB.trans (hb.mono hB.size)
  replace hN := hN.on hb
  clear hb r1 ht y9 z1
  obtain ⟨na, nc, hnv, -⟩ := hN
  subst hnv
  go_wp2_with fail
  refine (same_no na none 1 0 nc 0 z2 (by decide)).mono ?_
  rintro e z3 ⟨rfl, rfl⟩
  go_wp2
  go_ret
  exact ⟨rfl, hB⟩

end Go.Proofs.Ytceedbkacbaaiaa
