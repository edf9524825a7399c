/- Package graph: reach and Reach over objects that are there (Grph): what one comes to, in its order. -/
import Derived.Test.YtceedbkacbaaiaaGraph
namespace Go.Proofs.Ytceedbkacbaaiaa
open Go.ChangeShapes Go.WideShapes Go.ChangeAt Go.RowKit

set_option linter.unusedSimpArgs false
set_option linter.unusedVariables false

set_option maxRecDepth 100000 in
theorem add_none (F mb B c : Nat) (a : Option Addr) (ov : Value) (o : List Int) (w : World) (hF : FoundAt B w F mb ov o) :
    Calls Try.prog 62 #[.pointer (some ⟨F, 0, none⟩), .slice a 0 c] w fun e w' => e = .returned (.tuple #[]) ∧ w = w' := by
  go_enter Try.func62, Try.ntmps62
  go_wp2
  go_loopw [8] (fun i wr => i = .int .i64 0 ∧ wr = w) (fun i _ => 0)
  case atStart => exact ⟨rfl, rfl⟩
  case round =>
    obtain ⟨rfl, rfl⟩ := hrel
    go_wp2
    go_end0
    exact ⟨rfl, rfl⟩

theorem ReadsAs.block {k : IntKind} {w : World} {v : Value} {xs : List Int} (h : ReadsAs k w v xs) {g : Nat} (hg : v.ownBlock = some g) : g < w.heap.size := by
  rcases h.2 with ⟨_, c, rfl⟩ | ⟨g', c, rfl, _, hl, _⟩
  · simp [Value.ownBlock] at hg
  · simp [Value.ownBlock] at hg
    subst hg
    exact hl

theorem add_any (F mb B : Nat) (ov v : Value) (o xs : List Int) (w : World) (hF : FoundAt B w F mb ov o) (hB : B ≤ w.heap.size) (hv : ReadsAs .i64 w v xs) (hlen : o.length + xs.length ≤ 1000000)
    (hxb : ∀ x ∈ xs, -9223372036854775808 ≤ x ∧ x ≤ 9223372036854775807) (hg : ∀ g, v.ownBlock = some g → ov.ownBlock ≠ some g) :
    Calls Try.prog 62 #[.pointer (some ⟨F, 0, none⟩), v] w fun e w' => ∃ ov', e = .returned (.tuple #[]) ∧ FoundAt B w' F mb ov' (addO o xs) ∧ Chg (AddS F mb ov) w w' := by
  by_cases h0 : xs = []
  · subst h0
    obtain ⟨a, c, rfl⟩ : ∃ a c, v = .slice a 0 c := by
      rcases hv.2 with ⟨_, c, rfl⟩ | ⟨g, c, rfl, _⟩
      · exact ⟨_, _, rfl⟩
      · exact ⟨_, _, rfl⟩
    refine (add_none F mb B c a ov o w hF).mono ?_
    rintro e x ⟨rfl, rfl⟩
    exact ⟨ov, rfl, hF, Chg.refl _ _⟩
  · rcases hv.2 with ⟨h, _⟩ | ⟨g, c, rfl, hc, hgl, hr⟩
    · exact absurd h h0
    · refine (add_some F mb B g c ov o xs w hF hB hc hlen hr hxb (hg g rfl) (List.length_pos_iff.2 h0)).mono ?_
      rintro e x ⟨ov', rfl, h1, _, h2⟩
      exact ⟨ov', rfl, h1, h2⟩

/-- Objects at the places V; of the one at x the strong pointers are G x, each 0 or one of the places. -/
structure Grph (P b : Nat) (l V : List Int) (G : Int → List Int) : Prop where
  strong : ∀ x ∈ V, ∀ y, ArenaAt 65 y P b l → Calls Try.prog 12 #[.pointer (some ⟨P, 0, none⟩), .int .i64 x] y fun e y' => ∃ sv, e = .returned (.tuple #[sv, .int .i64 0]) ∧
    y'.ownsRow y.heap.size 3 1 sv (G x).length ((G x).map (Value.int .i64)) ∧ Below y.heap.size y y'
  shut : ∀ x ∈ V, ∀ y ∈ G x, y = 0 ∨ y ∈ V
  nums : ∀ x ∈ V, 0 < x ∧ x ≤ 65536
  len : V.length ≤ 8
  deg : ∀ x ∈ V, (G x).length ≤ 8
theorem Grph.bound {P b : Nat} {l V : List Int} {G : Int → List Int} (h : Grph P b l V G) {x : Int} (hx : x = 0 ∨ x ∈ V) : -9223372036854775808 ≤ x ∧ x ≤ 9223372036854775807 := by
  rcases hx with rfl | hx
  · omega
  · have := h.nums x hx; omega

theorem FoundAt.on {B F mb : Nat} {w x : World} {ov : Value} {o : List Int} (h : FoundAt B w F mb ov o) (hb : Below w.heap.size w x) : FoundAt B x F mb ov o :=
  ⟨h.blk.on hb, h.map.on hb, own_chg h.own (Chg.of_below (S := fun _ => False) hb (Nat.le_refl _)) (fun _ _ h => h)⟩
theorem FoundAt.addS {B F mb n : Nat} {w : World} {ov : Value} {o : List Int} (h : FoundAt B w F mb ov o) (h1 : n ≤ F) (h2 : n ≤ mb) (h3 : n ≤ B) {k : Nat} (hk : AddS F mb ov k) : n ≤ k := by
  rcases hk with rfl | rfl | hk
  · exact h1
  · exact h2
  · exact Nat.le_trans h3 (own_block h.own hk).1
theorem FoundAt.far {B F mb k : Nat} {w : World} {ov : Value} {o : List Int} {cs : Array Value} (h : FoundAt B w F mb ov o) (hk : BlkIs w k cs 76) (h1 : k ≠ F) : ¬ AddS F mb ov k := by
  rintro (rfl | rfl | e)
  · exact h1 rfl
  · obtain ⟨D, ⟨es, clock, hb', _⟩, _⟩ := h.map
    unfold BlkIs at hk
    rw [hb'] at hk
    injection hk with hk
    cases hk
  · obtain ⟨_, cur, hh⟩ := own_block h.own e
    unfold BlkIs at hk
    rw [hh] at hk
    injection hk with hk
    injection hk with _ hk
    exact absurd hk (by decide)

set_option maxRecDepth 100000 in
set_option maxHeartbeats 4000000 in
theorem reach_any (P b : Nat) (l V : List Int) (G : Int → List Int) (rv : Value) (roots : List Int) (w : World) (hG : Grph P b l V G) (hA : ArenaAt 65 w P b l) (hv : ReadsAs .i64 w rv roots)
    (hr : ∀ x ∈ roots, x = 0 ∨ x ∈ V) (hrl : roots.length ≤ 1000) :
    Calls Try.prog 31 #[.pointer (some ⟨P, 0, none⟩), rv] w fun e w' => ∃ mb ov, e = .returned (.tuple #[.agg #[ov, .map (some mb)], .int .i64 0]) ∧
      w'.ownsRow w.heap.size 3 1 ov (reachO G V.length roots).length ((reachO G V.length roots).map (Value.int .i64)) ∧ IMap w' mb (reachO G V.length roots).length (rk (reachO G V.length roots)) ∧ w.heap.size ≤ mb ∧ Below w.heap.size w w' := by
  have hmm := @run_makeMap Try.prog
  have hlt := hA.lt
  have hgb := fun g h => hv.block (g := g) h
  go_enter Try.func31, Try.ntmps31
  go_wp2_with fail
  have s1 : (w.alloc (.cells #[.slice none 0 0, .map none] 76)).heap.size = w.heap.size + 1 := by simp
  have s2 : ((w.alloc (.cells #[.slice none 0 0, .map none] 76)).alloc (.map #[] 0)).heap.size = w.heap.size + 2 := by simp
  have k4 := ((BlkIs.new w #[.slice none 0 0, .map none] 76).alloc (.map #[] 0)).alloc (.cells #[.slice none 0 0, .map (some (w.heap.size + 1))] 76)
  have k6 := BlkIs.new ((w.alloc (.cells #[.slice none 0 0, .map none] 76)).alloc (.map #[] 0)) #[.slice none 0 0, .map (some (w.heap.size + 1))] 76
  have km := (IMap.new (w.alloc (.cells #[.slice none 0 0, .map none] 76))).on ((Below.refl _ _).alloc (Nat.le_refl _) (.cells #[.slice none 0 0, .map (some (w.heap.size + 1))] 76))
  have hB := (((Below.refl w.heap.size w).alloc (Nat.le_refl _) (.cells #[.slice none 0 0, .map none] 76)).alloc (by omega) (.map #[] 0)).alloc (by omega) (.cells #[.slice none 0 0, .map (some (w.heap.size + 1))] 76)
  rw [s1] at km
  rw [s2] at k6
  generalize ((w.alloc (.cells #[.slice none 0 0, .map none] 76)).alloc (.map #[] 0)).alloc (.cells #[.slice none 0 0, .map (some (w.heap.size + 1))] 76) = x0 at *
  have hF : FoundAt w.heap.size x0 (w.heap.size + 2) (w.heap.size + 1) (.slice none 0 0) [] := ⟨k6, km, ⟨rfl, .inl ⟨rfl, rfl⟩⟩⟩
  have M1 := add_any (w.heap.size + 2) (w.heap.size + 1) w.heap.size _ rv [] roots x0 hF hB.size (hv.below hB) (by simp; omega) (fun x hx => hG.bound (hr x hx)) (fun g h1 h2 => by simp [Value.ownBlock] at h2)
  have hf4 := hF.far k4 (by omega)
  have hS0 : ∀ k, AddS (w.heap.size + 2) (w.heap.size + 1) (.slice none 0 0) k → w.heap.size ≤ k := fun k => hF.addS (by omega) (by omega) (Nat.le_refl _)
  refine M1.mono ?_
  rintro e x1 ⟨ov, rfl, hF1, hc⟩
  clear M1 km k6 hF s1 s2
  replace k4 := k4.chg hc hf4
  replace hB := hB.trans (hc.below hS0 hB.size)
  have hI := inv_start (G := G) (V := V) (r := roots) hr
  have hR0 : goO G (V.length - 0) (addO [] roots) 0 = reachO G V.length roots := rfl
  clear hS0 hf4 hc hgb hv hr hrl x0
  generalize addO [] roots = o0 at *
  go_wp2
  obtain ⟨B, hBw⟩ : ∃ B, w.heap.size = B := ⟨_, rfl⟩
  rw [hBw] at k4 hB hF1 hlt ⊢
  obtain ⟨F, hFe⟩ : ∃ F, B + 2 = F := ⟨_, rfl⟩
  obtain ⟨mb, hme⟩ : ∃ m, B + 1 = m := ⟨_, rfl⟩
  have hFe' : B + 1 + 1 = F := hFe
  rw [hFe, hme] at hF1
  rw [hFe', hme]
  have HV := Lib.hid (show w.heap.size = B ∧ B + 2 = F ∧ B + 1 = mb from ⟨hBw, hFe, hme⟩)
  clear hBw hFe hFe' hme
  go_loopw [7] (fun i wr => ∃ (k : Nat) (ov : Value) (o : List Int), i = .int .i64 k ∧ k ≤ V.length ∧ FoundAt B wr F mb ov o ∧ Inv G V roots o k ∧ goO G (V.length - k) o k = reachO G V.length roots ∧ BlkIs wr B #[.slice none 0 0, .map none] 76 ∧ Below B w wr) (fun i _ => V.length - (intOf i).toNat)
  case atStart => exact ⟨0, ov, o0, rfl, by omega, hF1, hI, hR0, k4, hB⟩
  case round =>
    clear hF1 hI hR0 k4 hB o0 ov
    obtain ⟨k, ov, o, rfl, hkV, hF, hI, hR, k4, hB⟩ := hrel
    have hoV := hI.len
    have hV8 := hG.len
    by_cases hlt2 : k < o.length
    · obtain ⟨g, cap, hov, hg0, hg1, hg2, hg3, hg4, hgc⟩ := own_cell hF.own (by omega)
      have hF0 : wr.cell? ⟨F, 0, none⟩ = some ov := hF.blk.cell 0
      have hx := hI.sub _ (getD_mem hlt2)
      have hgk := hgc k hlt2
      have hRn : goO G (V.length - (k + 1)) (addO o (G (o.getD k 0))) (k + 1) = reachO G V.length roots := by
        rw [← hR, show V.length - k = (V.length - (k + 1)) + 1 from by omega]
        show _ = if k < o.length then _ else _
        rw [if_pos hlt2]
      have hIn := hI.step hlt2 hG.shut
      generalize o.getD k 0 = x at *
      have hxb := hG.nums x hx
      have hwl : w.heap.size ≤ wr.heap.size := by have := hB.size; omega
      have M1 := hG.strong x hx wr (hA.below hB (by omega) (by omega))
      have j0 : (0 : Int) ≤ (k : Int) := by omega
      have j1 : (k : Int) < (o.length : Int) := by omega
      have hov' := Lib.hid hov
      rw [hov] at hF0
      have hol : o.length ≤ 8 := by omega
      clear hgc hov
      go_wp2_with fail
      refine M1.mono ?_
      rintro e x2 ⟨sv, rfl, hsv, hb2⟩
      clear M1 hF0 hgk
      have hF2 := hF.on hb2
      have M2 := add_any F mb B ov sv o (G x) x2 hF2 (by have := hb2.size; have := HV.out; omega) (readsAs_of_owns hsv) (by have := hG.deg x hx; omega) (fun y hy => hG.bound (hG.shut x hx y hy)) (fun g' h1 h2 => by
        obtain ⟨h3, _⟩ := own_block hsv h1.symm
        obtain ⟨_, cur, hh⟩ := own_block hF.own h2.symm
        have := (Array.getElem?_eq_some_iff.1 hh).1
        omega)
      have k42 := k4.on hb2
      have hB2 := hB.trans (hb2.mono (by have := HV.out; omega))
      have hf4 := hF2.far k42 (by have := HV.out; omega)
      have hS0 : ∀ k, AddS F mb ov k → B ≤ k := fun k => hF2.addS (by have := HV.out; omega) (by have := HV.out; omega) (Nat.le_refl _)
      clear hsv hF hb2
      go_wp2_with fail
      refine M2.mono ?_
      rintro e x3 ⟨ov3, rfl, hF3, hc3⟩
      clear M2 hF2
      go_wp2
      go_roundw
      case rel => exact ⟨k + 1, ov3, _, by go_num, by omega, hF3, hIn, hRn, k42.chg hc3 hf4, hB2.trans (hc3.below hS0 (by have := hB2.size; have := HV.out; omega))⟩
      case measure => simp [intOf]; omega
    · obtain ⟨oa, oc, hov⟩ := own_slice hF.own
      have hF0 : wr.cell? ⟨F, 0, none⟩ = some ov := hF.blk.cell 0
      have hF1 : wr.cell? ⟨F, 1, none⟩ = some (.map (some mb)) := hF.blk.cell 1
      have h40 : wr.cell? ⟨B, 0, none⟩ = some (.slice none 0 0) := k4.cell 0
      have h41 : wr.cell? ⟨B, 1, none⟩ = some (.map none) := k4.cell 1
      have g0 := k4.free 0
      have g1 := k4.free 1
      rw [hov] at hF0
      rw [goO_end (by omega)] at hR
      subst hR
      have hown := hF.own
      rw [hov] at hown
      go_wp2
      have hE := (k4.set 0 (.slice oa (reachO G V.length roots).length oc)).set 1 (.map (some mb))
      have e0 := hE.cell 0
      have e1 := hE.cell 1
      refine bodyPost_ret (v := .tuple #[.agg #[.slice oa (reachO G V.length roots).length oc, .map (some mb)], .int .i64 0]) ?_ rfl ⟨mb, _, rfl, ?_, ?_, by have := HV.out; omega, ?_⟩
      · simp [results, Try.f31, go_sem, e0, e1]
      · have hc : Chg (· = B) wr ((wr.setCell ⟨B, 0, none⟩ (.slice oa (reachO G V.length roots).length oc)).setCell ⟨B, 1, none⟩ (.map (some mb))) := ((Chg.refl (· = B) wr).setCell (p := ⟨B, 0, none⟩) (.inl rfl) _).setCell (p := ⟨B, 1, none⟩) (.inl rfl) _
        refine ⟨hown.1, hown.2.imp id ?_⟩
        rintro ⟨g, cap, cur, e, hb, hh, r⟩
        refine ⟨g, cap, cur, e, by have := HV.out; omega, (hc.block g (Array.getElem?_eq_some_iff.1 hh).1 fun e => ?_).trans hh, r⟩
        subst e
        unfold BlkIs at k4
        rw [hh] at k4
        injection k4 with k4
        injection k4 with _ k4
        exact absurd k4 (by decide)
      · exact hF.map.chg (S := (· = B)) (((Chg.refl (· = B) wr).setCell (p := ⟨B, 0, none⟩) (.inl rfl) _).setCell (p := ⟨B, 1, none⟩) (.inl rfl) _) (by have := HV.out; omega)
      · have hwB := HV.out.1
        rw [hwB]
        exact (hB.setCell (p := ⟨B, 0, none⟩) (Nat.le_refl _) _).setCell (p := ⟨B, 1, none⟩) (Nat.le_refl _) _

set_option maxRecDepth 100000 in
theorem Reach_any (P b : Nat) (l V : List Int) (G : Int → List Int) (rv : Value) (roots : List Int) (w : World) (hG : Grph P b l V G) (hA : ArenaAt 65 w P b l) (hv : ReadsAs .i64 w rv roots)
    (hr : ∀ x ∈ roots, x = 0 ∨ x ∈ V) (hrl : roots.length ≤ 1000) :
    Calls Try.prog 11 #[.pointer (some ⟨P, 0, none⟩), rv] w fun e w' => ∃ ov, e = .returned (.tuple #[ov, .int .i64 0]) ∧
      w'.ownsRow w.heap.size 3 1 ov (reachO G V.length roots).length ((reachO G V.length roots).map (Value.int .i64)) ∧ Below w.heap.size w w' := by
  have M1 := reach_any P b l V G rv roots w hG hA hv hr hrl
  generalize reachO G V.length roots = R at *
  go_enter Try.func11, Try.ntmps11
  go_wp2_with fail
  refine M1.mono ?_
  rintro e x ⟨mb, ov, rfl, hown, hm, hmb, hB⟩
  clear M1
  have hB2 := hB.alloc hB.size (.cells #[ov, .map (some mb)] 76)
  have hown2 := hown.alloc (.cells #[ov, .map (some mb)] 76)
  obtain ⟨oa, oc, rfl⟩ := own_slice hown
  go_wp2
  go_ret2
  exact ⟨_, rfl, hown2, hB2⟩

end Go.Proofs.Ytceedbkacbaaiaa
