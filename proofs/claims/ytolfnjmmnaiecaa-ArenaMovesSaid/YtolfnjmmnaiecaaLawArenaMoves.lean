/- For every size, any words, any places: what was moved stands there as it stood ahead, the others are as they were: the law ArenaMoves returns true and its arguments read as they did. No condition. -/
import Derived.Test.YtolfnjmmnaiecaaArenaLaw
import Derived.Test.YtolfnjmmnaiecaaOwnRow
import Derived.Test.YtolfnjmmnaiecaaOpen
namespace Go.Proofs.Ytolfnjmmnaiecaa.arenaMoves
open Go.ChangeShapes Go.WideShapes Go.ChangeAt Go.RowKit
set_option linter.unusedVariables false
set_option linter.unusedSimpArgs false

theorem load_in {l : List Int} {m n : Nat} (hl : l.length = n) (h : m < n) : loadV l m = l.getD m 0 ∧ errV l.length m 1 = 0 := by
  have hf : fitsB l.length m 1 = true := fitsB_of (by omega) (by omega) (by omega)
  unfold loadV errV
  rw [hf]
  exact ⟨rfl, rfl⟩
theorem store_in {l : List Int} {m n : Nat} (x : Int) (hl : l.length = n) (h : m < n) : fillV l m 1 x = l.set m x ∧ errV l.length m 1 = 0 := by
  have hf : fitsB l.length m 1 = true := fitsB_of (by omega) (by omega) (by omega)
  unfold fillV errV
  rw [hf]
  exact ⟨rfl, rfl⟩
theorem move_in {l : List Int} {a c q n : Nat} (hl : l.length = n) (h1 : a + q ≤ n) (h2 : c + q ≤ n) : moveV l a c q = layL l c (fun j => l.getD (a + j) 0) q ∧ err2V l.length a c q = 0 := by
  have hf : fitsB l.length a q = true := fitsB_of (by omega) (by omega) (by omega)
  have hg : fitsB l.length c q = true := fitsB_of (by omega) (by omega) (by omega)
  refine ⟨?_, err2V_yes hf hg⟩
  rw [moveV_yes hf hg]
  simp only [Int.toNat_natCast]
theorem move_len (l : List Int) (a c n : Int) : (moveV l a c n).length = l.length := by
  unfold moveV; split <;> simp
theorem mov_val {n a c : Nat} : err2V n a c n = if a = 0 ∧ c = 0 then 0 else 20 := by
  split
  · rename_i h
    exact err2V_yes (fitsB_of (by omega) (by omega) (by omega)) (fitsB_of (by omega) (by omega) (by omega))
  · rename_i h
    refine err2V_no ?_
    by_cases h0 : a = 0
    · rw [fitsB_not (a := (c : Int)) (by omega)]; simp
    · rw [fitsB_not (by omega)]; rfl

/-- The words that are stored. -/
def oldL (n len : Nat) (zs : List Int) : List Int := (List.range n).map fun j => if j < len then zs.getD j 0 else (j : Int)
theorem oldL_len (n len : Nat) (zs : List Int) : (oldL n len zs).length = n := by simp [oldL]
theorem oldL_in {n len m : Nat} {zs : List Int} (h : m < n) (hl : m < len) : (oldL n len zs).getD m 0 = zs.getD m 0 := by simp [oldL, List.getD, h, hl]
theorem oldL_out {n len m : Nat} {zs : List Int} (h : m < n) (hl : ¬ m < len) : (oldL n len zs).getD m 0 = (m : Int) := by simp [oldL, List.getD, h, hl]
theorem oldL_all {n : Nat} (L : List Int) (h : L.length = n) : layL (List.replicate n 0) 0 (fun j => L.getD j 0) n = L := by
  refine ext_getD (by simp [h]) fun j hj => ?_
  rw [layL_length, List.length_replicate] at hj
  rw [layL_at _ _ _ _ _ (by simpa using hj), if_pos (by omega), Nat.sub_zero]



set_option maxRecDepth 100000 in
set_option maxHeartbeats 8000000 in
theorem walk (a0 : Int) (a1 : Option Addr) (len1 cap1 : Nat) (z1 : List Int) (a2 a3 a4 : Int) (w : World) (w0 : -9223372036854775808 ≤ a0 ∧ a0 ≤ 9223372036854775807) (w1 : IsRow .u64 w a1 len1 cap1 z1)
    (w2 : -9223372036854775808 ≤ a2 ∧ a2 ≤ 9223372036854775807) (w3 : -9223372036854775808 ≤ a3 ∧ a3 ≤ 9223372036854775807) (w4 : -9223372036854775808 ≤ a4 ∧ a4 ≤ 9223372036854775807) :
    Calls Try.prog 5 #[.int .i64 a0, .slice a1 len1 cap1, .int .i64 a2, .int .i64 a3, .int .i64 a4] w fun e w' => e = .returned (.bool true) ∧ Below w.heap.size w w' := by
  obtain ⟨i0, hi, hz0, hz1, hz2⟩ := info_parts infoW
  obtain ⟨b0, b1⟩ := w0
  obtain ⟨b2, b3⟩ := w2
  obtain ⟨b4, b5⟩ := w3
  obtain ⟨b6, b7⟩ := w4
  have hmax : len1 ≤ 9223372036854775807 := by
    rcases w1 with ⟨h0, _⟩ | ⟨b, off, rfl, hb, hl, hm, hz, hc, hw⟩
    · omega
    · unfold maxLen at hm; omega
  go_enter Try.func5, Try.ntmps5
  go_wp2_with fail
  refine (awake_any _).mono ?_
  rintro e x1 ⟨rfl, hb1⟩
  go_wp2_with fail
  refine (pick_nat _ 40 _ b0 b1 (by decide) (by decide)).mono ?_
  rintro e x2 ⟨k, hk, rfl, rfl⟩
  go_wp2_with fail
  rw [show (1 : Int) + (k : Int) = ((k + 1 : Nat) : Int) from by omega]
  refine (new_any (k + 1) _ (by omega) (by omega)).mono ?_
  rintro e x2 ⟨p, b, rfl, h1, hp, hb, hb2⟩
  have hB2 : Below w.heap.size w x2 := hb1.trans (hb2.mono hb1.size)
  have l1 : w.heap.size ≤ p := Nat.le_trans hb1.size hp
  have l2 : w.heap.size ≤ b := Nat.le_trans hb1.size hb
  have hl1 := h1.lt
  clear hb1 hb2 hp hb
  obtain ⟨L, hL⟩ : ∃ L, oldL (k + 1) len1 z1 = L := ⟨_, rfl⟩
  have HL : Hid (L.length = k + 1) := by subst hL; exact oldL_len _ _ _
  have Hin : Hid (∀ m, m < k + 1 → m < len1 → ∃ bo off, a1 = some ⟨bo, off, none⟩ ∧ bo < w.heap.size ∧ w.cell? ⟨bo, off + m, none⟩ = some (.int .u64 (L.getD m 0)) ∧ 0 ≤ L.getD m 0 ∧ L.getD m 0 ≤ 18446744073709551615) := by
    intro m hm hl
    rw [← hL, oldL_in hm hl]
    rcases w1 with ⟨h0, _⟩ | ⟨bo, off, rfl, hb, hl', hm', hz, hc, hw⟩
    · omega
    · have hmz : m < z1.length := by omega
      have hg : z1.getD m 0 ∈ z1 := by rw [List.getD_eq_getElem?_getD, List.getElem?_eq_getElem hmz]; exact List.getElem_mem hmz
      have := bounds_u64 (hw _ hg)
      exact ⟨bo, off, rfl, hb, hc m hmz, this.1, this.2⟩
  have Hout : Hid (∀ m, m < k + 1 → ¬ m < len1 → L.getD m 0 = (m : Int)) := fun m hm hl => by rw [← hL, oldL_out hm hl]
  clear hL w1
  obtain ⟨B2, hBB⟩ : ∃ B2, x2.heap.size = B2 := ⟨_, rfl⟩
  have HB2 := Lib.hid hBB
  rw [hBB] at hl1
  clear hBB
  have l3 : w.heap.size ≤ B2 := by have := HB2.out; have := hB2.size; omega
  go_wp2
  go_loopw [15, 16] (fun v i wr => ∃ m : Nat, m ≤ k + 1 ∧ i = .int .i64 m ∧ ArenaAt 48 wr p b (layL (List.replicate (k + 1) 0) 0 (fun j => L.getD j 0) m) ∧ wr.ownsRow B2 32 1 v m ((L.take m).map (Value.int .u64)) ∧ Below w.heap.size w wr ∧ B2 ≤ wr.heap.size) (fun _ i _ => k + 1 - (intOf i).toNat)
  case atStart => exact ⟨0, by omega, rfl, h1, World.ownsRow_nil _ _ _ _, hB2, by rw [HB2.out]; exact Nat.le_refl _⟩
  case round =>
    obtain ⟨m, hm, rfl, ha, hown, hbw, hbs⟩ := hrel
    by_cases hlt : m < k + 1
    · have Hs := Lib.hid (take_snoc_int (l := L) (j := m) (by rw [HL.out]; exact hlt) (Value.int .u64))
      obtain ⟨e1, e2⟩ := store_in (l := layL (List.replicate (k + 1) 0) 0 (fun j => L.getD j 0) m) (n := k + 1) (L.getD m 0) (by simp) hlt
      have e3 : (layL (List.replicate (k + 1) 0) 0 (fun j => L.getD j 0) m).set m (L.getD m 0) = layL (List.replicate (k + 1) 0) 0 (fun j => L.getD j 0) (m + 1) := by
        show _ = (layL (List.replicate (k + 1) 0) 0 (fun j => L.getD j 0) m).set (0 + m) _
        rw [Nat.zero_add]
      rw [e3] at e1
      have E1 := Lib.hid e1
      have E2 := Lib.hid e2
      clear e1 e2 e3
      by_cases hlen : m < len1
      · obtain ⟨bo, off, rfl, hbo, hc, f0, f1⟩ := Hin.out m hlt hlen
        have hc := (hbw.cell (p := ⟨bo, off + m, none⟩) hbo).trans hc
        obtain ⟨y, hy⟩ : ∃ y, L.getD m 0 = y := ⟨_, rfl⟩
        rw [hy] at Hs E1 hc f0 f1
        clear hy
        go_wp2_with fail
        refine (store_any _ _ _ ha (by omega) (by omega) ⟨f0, f1⟩).mono ?_
        rw [E1.out, E2.out]
        rintro e w3 ⟨rfl, ha3, hch⟩
        have hown3 := own_chg hown hch (fun k h e => by omega)
        have hs3 := hch.size
        have hb3 := hbw.trans (hch.below (fun k e => by omega) hbw.size)
        clear hc
        go_wp2_with (at_builtin; refine wpList_append_own _ rfl _ _ 42 rfl B2 32 i0 (.int .u64 0) 1 8 Try.underlying42 hi hz0 hz1 hz2 rfl (by decide) u15 _ _ rfl (hown3.alloc _) ⟨w3.heap.size, 0, none⟩ 1 1 [.int .u64 y] rfl rfl (cell_one_new _ _ _) (by simp [Value.oneCell']) (by unfold maxLen; omega) (by omega) (by simp; omega) ?_; intro v' w2 hown2 hgr hnil)
        have hc2 := chg_of_append (hown3.alloc _) hgr
        have hs2 := hc2.size
        simp only [World.size_alloc] at hs2
        go_roundw
        case rel => exact ⟨m + 1, by omega, by go_num, ha3.chg (((Chg.refl _ _).alloc _).trans hc2) (by omega) (by omega), by rw [Hs.out] at hown2; exact hown2, (hb3.alloc hb3.size _).trans (hc2.below (fun k e => by omega) (by simp; omega)), by omega⟩
        case measure => simp [intOf]; omega
      · have hy := Hout.out m hlt hlen
        rw [hy] at Hs E1
        clear hy
        go_wp2_with fail
        refine (store_any _ _ _ ha (by omega) (by omega) (by omega)).mono ?_
        rw [E1.out, E2.out]
        rintro e w3 ⟨rfl, ha3, hch⟩
        have hown3 := own_chg hown hch (fun k h e => by omega)
        have hs3 := hch.size
        have hb3 := hbw.trans (hch.below (fun k e => by omega) hbw.size)
        go_wp2_with (at_builtin; refine wpList_append_own _ rfl _ _ 42 rfl B2 32 i0 (.int .u64 0) 1 8 Try.underlying42 hi hz0 hz1 hz2 rfl (by decide) u15 _ _ rfl (hown3.alloc _) ⟨w3.heap.size, 0, none⟩ 1 1 [.int .u64 (m : Int)] rfl rfl (cell_one_new _ _ _) (by simp [Value.oneCell']) (by unfold maxLen; omega) (by omega) (by simp; omega) ?_; intro v' w2 hown2 hgr hnil)
        have hc2 := chg_of_append (hown3.alloc _) hgr
        have hs2 := hc2.size
        simp only [World.size_alloc] at hs2
        go_roundw
        case rel => exact ⟨m + 1, by omega, by go_num, ha3.chg (((Chg.refl _ _).alloc _).trans hc2) (by omega) (by omega), by rw [Hs.out] at hown2; exact hown2, (hb3.alloc hb3.size _).trans (hc2.below (fun k e => by omega) (by simp; omega)), by omega⟩
        case measure => simp [intOf]; omega
    · obtain rfl : m = k + 1 := by omega
      rw [List.take_of_length_le (by rw [HL.out]; exact Nat.le_refl _)] at hown
      rw [oldL_all L HL.out] at ha
      obtain ⟨g, cap, rfl, hg1, hg2, hg3, hg4, hg5, hgc⟩ := own_cell hown (by omega)
      have Hgc := Lib.hid hgc
      have hng : ¬ g = b := by omega
      clear hown hgc Hin Hout
      go_wp2_with fail
      rw [show (k : Int) + 1 = ((k + 1 : Nat) : Int) from by omega]
      refine (pick_nat _ (k + 1) _ b2 b3 (by omega) (by omega)).mono ?_
      rintro e x3 ⟨i, hi', rfl, rfl⟩
      go_wp2_with fail
      rw [show (k : Int) + 1 = ((k + 1 : Nat) : Int) from by omega]
      refine (pick_nat _ (k + 1) _ b4 b5 (by omega) (by omega)).mono ?_
      rintro e x3 ⟨j, hj', rfl, rfl⟩
      by_cases hij : i < j
      · go_wp2_with fail
        rw [show (k : Int) + 1 - (j : Int) + 1 = ((k + 2 - j : Nat) : Int) from by omega]
        refine (pick_nat _ (k + 2 - j) _ b6 b7 (by omega) (by omega)).mono ?_
        rintro e x3 ⟨q, hq', rfl, rfl⟩
        have hq1 : i + q ≤ k + 1 := by omega
        have hq2 : j + q ≤ k + 1 := by omega
        clear hij hq'
        obtain ⟨e1, e2⟩ := move_in (l := L) (a := i) (c := j) (q := q) HL.out hq1 hq2
        have E1 := Lib.hid e1
        have E2 := Lib.hid e2
        clear e1 e2
        go_wp2_with fail
        refine (move_any _ _ _ _ ha (by omega) (by omega) (by omega) (by omega) (by omega) (by omega)).mono ?_
        rw [E1.out, E2.out]
        rintro e x3 ⟨rfl, hs, hch⟩
        have hgc3 : Hid (∀ j, j < k + 1 → x3.cell? ⟨g, j, none⟩ = some (.int .u64 (L.getD j 0))) := fun j hj => (hch.cell (p := ⟨g, j, none⟩) hg2 hng).trans (Hgc.out j hj)
        have hb3 : Below w.heap.size w x3 := hbw.trans (hch.below (fun k e => by omega) hbw.size)
        have hl3 : Hid ((layL L j (fun c => L.getD (i + c) 0) q).length = k + 1) := by show _ = _; rw [layL_length]; exact HL.out
        clear hch hbw ha Hgc E1 E2
        go_wp2
        go_loop [21] (fun i => ∃ m : Nat, m ≤ k + 1 ∧ i = .int .i64 m) (fun i => k + 1 - (intOf i).toNat)
        case atStart => exact ⟨0, by omega, rfl⟩
        case round =>
          obtain ⟨m, hm, rfl⟩ := hrel
          by_cases hlt : m < k + 1
          · have hcm := hgc3.out m hlt
            obtain ⟨e1, e2⟩ := load_in hl3.out hlt
            rw [layL_at _ _ _ _ _ (by rw [HL.out]; exact hlt)] at e1
            by_cases em : j ≤ m ∧ m < j + q
            · obtain ⟨m1, m2⟩ := em
              rw [if_pos ⟨m1, m2⟩] at e1
              have hd : decide ((j : Int) ≤ m) = true := by simp; omega
              have hd2 : decide ((m : Int) < (j : Int) + q) = true := by simp; omega
              have hcx := hgc3.out (i + (m - j)) (by omega)
              have hix : ((i : Int) + m - j).toNat = i + (m - j) := by omega
              have E1 := Lib.hid e1
              have E2 := Lib.hid e2
              clear e1 e2
              go_wp2_with ((with_reducible refine (load_any _ _ hs (by omega) (by omega)).mono ?_); rintro e w' ⟨rfl, rfl⟩; rw [E1.out, E2.out])
              go_round
              case rel => exact ⟨m + 1, by omega, by go_num⟩
              case measure => simp [intOf]; omega
            · rw [if_neg em] at e1
              have E1 := Lib.hid e1
              have E2 := Lib.hid e2
              clear e1 e2
              by_cases m1 : j ≤ m
              · have hd : decide ((j : Int) ≤ m) = true := by simp; omega
                have hd2 : decide ((m : Int) < (j : Int) + q) = false := by simp; omega
                clear em
                go_wp2_with ((with_reducible refine (load_any _ _ hs (by omega) (by omega)).mono ?_); rintro e w' ⟨rfl, rfl⟩; rw [E1.out, E2.out])
                go_round
                case rel => exact ⟨m + 1, by omega, by go_num⟩
                case measure => simp [intOf]; omega
              · have hd : decide ((j : Int) ≤ m) = false := by simp; omega
                clear em
                go_wp2_with ((with_reducible refine (load_any _ _ hs (by omega) (by omega)).mono ?_); rintro e w' ⟨rfl, rfl⟩; rw [E1.out, E2.out])
                go_round
                case rel => exact ⟨m + 1, by omega, by go_num⟩
                case measure => simp [intOf]; omega
          · have E3 : Hid (err2V (layL L j (fun c => L.getD (i + c) 0) q).length j j q = 0) := by rw [hl3.out]; exact err2V_yes (fitsB_of (by omega) (by omega) (by omega)) (fitsB_of (by omega) (by omega) (by omega))
            have E4 : Hid ((moveV (layL L j (fun c => L.getD (i + c) 0) q) j j q).length = k + 1) := (move_len _ _ _ _).trans hl3.out
            by_cases i0' : i = 0
            · have hd : ((i : Int) == 0) = true := by rw [beq_iff_eq]; omega
              by_cases j0' : j = 0
              · have hd2 : ((j : Int) == 0) = true := by rw [beq_iff_eq]; omega
                have E5 : Hid (err2V (k + 1) (i : Int) (j : Int) ((k + 1 : Nat) : Int) = 0) := mov_val.trans (by rw [if_pos ⟨i0', j0'⟩])
                have I0 := Lib.hid i0'
                have J0 := Lib.hid j0'
                clear i0' j0'
                go_wp2_with fail
                refine (move_any _ _ _ _ hs (by omega) (by omega) (by omega) (by omega) (by omega) (by omega)).mono ?_
                rw [E3.out]
                rintro e x4 ⟨rfl, hs4, hch4⟩
                have hb4 := hb3.trans (hch4.below (fun k e => by omega) hb3.size)
                go_wp2_with fail
                rw [show (k : Int) + 1 = ((k + 1 : Nat) : Int) from by omega]
                refine (move_any _ _ _ _ hs4 (by omega) (by omega) (by omega) (by omega) (by omega) (by omega)).mono ?_
                rw [E4.out, E5.out]
                rintro e x5 ⟨rfl, hs5, hch5⟩
                have hb5 := hb4.trans (hch5.below (fun k e => by omega) hb4.size)
                go_wp2
                go_ret
                exact ⟨rfl, hb5⟩
              · have hd2 : ((j : Int) == 0) = false := by rw [beq_eq_false_iff_ne]; omega
                have E5 : Hid (err2V (k + 1) (i : Int) (j : Int) ((k + 1 : Nat) : Int) = 20) := mov_val.trans (by rw [if_neg (by omega)])
                have I0 := Lib.hid i0'
                clear i0'
                go_wp2_with fail
                refine (move_any _ _ _ _ hs (by omega) (by omega) (by omega) (by omega) (by omega) (by omega)).mono ?_
                rw [E3.out]
                rintro e x4 ⟨rfl, hs4, hch4⟩
                have hb4 := hb3.trans (hch4.below (fun k e => by omega) hb3.size)
                go_wp2_with fail
                rw [show (k : Int) + 1 = ((k + 1 : Nat) : Int) from by omega]
                refine (move_any _ _ _ _ hs4 (by omega) (by omega) (by omega) (by omega) (by omega) (by omega)).mono ?_
                rw [E4.out, E5.out]
                rintro e x5 ⟨rfl, hs5, hch5⟩
                have hb5 := hb4.trans (hch5.below (fun k e => by omega) hb4.size)
                go_wp2
                go_ret
                exact ⟨rfl, hb5⟩
            · have hd : ((i : Int) == 0) = false := by rw [beq_eq_false_iff_ne]; omega
              have E5 : Hid (err2V (k + 1) (i : Int) (j : Int) ((k + 1 : Nat) : Int) = 20) := mov_val.trans (by rw [if_neg (by omega)])
              go_wp2_with fail
              refine (move_any _ _ _ _ hs (by omega) (by omega) (by omega) (by omega) (by omega) (by omega)).mono ?_
              rw [E3.out]
              rintro e x4 ⟨rfl, hs4, hch4⟩
              have hb4 := hb3.trans (hch4.below (fun k e => by omega) hb3.size)
              go_wp2_with fail
              rw [show (k : Int) + 1 = ((k + 1 : Nat) : Int) from by omega]
              refine (move_any _ _ _ _ hs4 (by omega) (by omega) (by omega) (by omega) (by omega) (by omega)).mono ?_
              rw [E4.out, E5.out]
              rintro e x5 ⟨rfl, hs5, hch5⟩
              have hb5 := hb4.trans (hch5.below (fun k e => by omega) hb4.size)
              go_wp2
              go_ret
              exact ⟨rfl, hb5⟩
      · go_wp2_with fail
        rw [show (k : Int) + 1 - (i : Int) + 1 = ((k + 2 - i : Nat) : Int) from by omega]
        refine (pick_nat _ (k + 2 - i) _ b6 b7 (by omega) (by omega)).mono ?_
        rintro e x3 ⟨q, hq', rfl, rfl⟩
        have hq1 : i + q ≤ k + 1 := by omega
        have hq2 : j + q ≤ k + 1 := by omega
        clear hij hq'
        obtain ⟨e1, e2⟩ := move_in (l := L) (a := i) (c := j) (q := q) HL.out hq1 hq2
        have E1 := Lib.hid e1
        have E2 := Lib.hid e2
        clear e1 e2
        go_wp2_with fail
        refine (move_any _ _ _ _ ha (by omega) (by omega) (by omega) (by omega) (by omega) (by omega)).mono ?_
        rw [E1.out, E2.out]
        rintro e x3 ⟨rfl, hs, hch⟩
        have hgc3 : Hid (∀ j, j < k + 1 → x3.cell? ⟨g, j, none⟩ = some (.int .u64 (L.getD j 0))) := fun j hj => (hch.cell (p := ⟨g, j, none⟩) hg2 hng).trans (Hgc.out j hj)
        have hb3 : Below w.heap.size w x3 := hbw.trans (hch.below (fun k e => by omega) hbw.size)
        have hl3 : Hid ((layL L j (fun c => L.getD (i + c) 0) q).length = k + 1) := by show _ = _; rw [layL_length]; exact HL.out
        clear hch hbw ha Hgc E1 E2
        go_wp2
        go_loop [21] (fun i => ∃ m : Nat, m ≤ k + 1 ∧ i = .int .i64 m) (fun i => k + 1 - (intOf i).toNat)
        case atStart => exact ⟨0, by omega, rfl⟩
        case round =>
          obtain ⟨m, hm, rfl⟩ := hrel
          by_cases hlt : m < k + 1
          · have hcm := hgc3.out m hlt
            obtain ⟨e1, e2⟩ := load_in hl3.out hlt
            rw [layL_at _ _ _ _ _ (by rw [HL.out]; exact hlt)] at e1
            by_cases em : j ≤ m ∧ m < j + q
            · obtain ⟨m1, m2⟩ := em
              rw [if_pos ⟨m1, m2⟩] at e1
              have hd : decide ((j : Int) ≤ m) = true := by simp; omega
              have hd2 : decide ((m : Int) < (j : Int) + q) = true := by simp; omega
              have hcx := hgc3.out (i + (m - j)) (by omega)
              have hix : ((i : Int) + m - j).toNat = i + (m - j) := by omega
              have E1 := Lib.hid e1
              have E2 := Lib.hid e2
              clear e1 e2
              go_wp2_with ((with_reducible refine (load_any _ _ hs (by omega) (by omega)).mono ?_); rintro e w' ⟨rfl, rfl⟩; rw [E1.out, E2.out])
              go_round
              case rel => exact ⟨m + 1, by omega, by go_num⟩
              case measure => simp [intOf]; omega
            · rw [if_neg em] at e1
              have E1 := Lib.hid e1
              have E2 := Lib.hid e2
              clear e1 e2
              by_cases m1 : j ≤ m
              · have hd : decide ((j : Int) ≤ m) = true := by simp; omega
                have hd2 : decide ((m : Int) < (j : Int) + q) = false := by simp; omega
                clear em
                go_wp2_with ((with_reducible refine (load_any _ _ hs (by omega) (by omega)).mono ?_); rintro e w' ⟨rfl, rfl⟩; rw [E1.out, E2.out])
                go_round
                case rel => exact ⟨m + 1, by omega, by go_num⟩
                case measure => simp [intOf]; omega
              · have hd : decide ((j : Int) ≤ m) = false := by simp; omega
                clear em
                go_wp2_with ((with_reducible refine (load_any _ _ hs (by omega) (by omega)).mono ?_); rintro e w' ⟨rfl, rfl⟩; rw [E1.out, E2.out])
                go_round
                case rel => exact ⟨m + 1, by omega, by go_num⟩
                case measure => simp [intOf]; omega
          · have E3 : Hid (err2V (layL L j (fun c => L.getD (i + c) 0) q).length j j q = 0) := by rw [hl3.out]; exact err2V_yes (fitsB_of (by omega) (by omega) (by omega)) (fitsB_of (by omega) (by omega) (by omega))
            have E4 : Hid ((moveV (layL L j (fun c => L.getD (i + c) 0) q) j j q).length = k + 1) := (move_len _ _ _ _).trans hl3.out
            by_cases i0' : i = 0
            · have hd : ((i : Int) == 0) = true := by rw [beq_iff_eq]; omega
              by_cases j0' : j = 0
              · have hd2 : ((j : Int) == 0) = true := by rw [beq_iff_eq]; omega
                have E5 : Hid (err2V (k + 1) (i : Int) (j : Int) ((k + 1 : Nat) : Int) = 0) := mov_val.trans (by rw [if_pos ⟨i0', j0'⟩])
                have I0 := Lib.hid i0'
                have J0 := Lib.hid j0'
                clear i0' j0'
                go_wp2_with fail
                refine (move_any _ _ _ _ hs (by omega) (by omega) (by omega) (by omega) (by omega) (by omega)).mono ?_
                rw [E3.out]
                rintro e x4 ⟨rfl, hs4, hch4⟩
                have hb4 := hb3.trans (hch4.below (fun k e => by omega) hb3.size)
                go_wp2_with fail
                rw [show (k : Int) + 1 = ((k + 1 : Nat) : Int) from by omega]
                refine (move_any _ _ _ _ hs4 (by omega) (by omega) (by omega) (by omega) (by omega) (by omega)).mono ?_
                rw [E4.out, E5.out]
                rintro e x5 ⟨rfl, hs5, hch5⟩
                have hb5 := hb4.trans (hch5.below (fun k e => by omega) hb4.size)
                go_wp2
                go_ret
                exact ⟨rfl, hb5⟩
              · have hd2 : ((j : Int) == 0) = false := by rw [beq_eq_false_iff_ne]; omega
                have E5 : Hid (err2V (k + 1) (i : Int) (j : Int) ((k + 1 : Nat) : Int) = 20) := mov_val.trans (by rw [if_neg (by omega)])
                have I0 := Lib.hid i0'
                clear i0'
                go_wp2_with fail
                refine (move_any _ _ _ _ hs (by omega) (by omega) (by omega) (by omega) (by omega) (by omega)).mono ?_
                rw [E3.out]
                rintro e x4 ⟨rfl, hs4, hch4⟩
                have hb4 := hb3.trans (hch4.below (fun k e => by omega) hb3.size)
                go_wp2_with fail
                rw [show (k : Int) + 1 = ((k + 1 : Nat) : Int) from by omega]
                refine (move_any _ _ _ _ hs4 (by omega) (by omega) (by omega) (by omega) (by omega) (by omega)).mono ?_
                rw [E4.out, E5.out]
                rintro e x5 ⟨rfl, hs5, hch5⟩
                have hb5 := hb4.trans (hch5.below (fun k e => by omega) hb4.size)
                go_wp2
                go_ret
                exact ⟨rfl, hb5⟩
            · have hd : ((i : Int) == 0) = false := by rw [beq_eq_false_iff_ne]; omega
              have E5 : Hid (err2V (k + 1) (i : Int) (j : Int) ((k + 1 : Nat) : Int) = 20) := mov_val.trans (by rw [if_neg (by omega)])
              go_wp2_with fail
              refine (move_any _ _ _ _ hs (by omega) (by omega) (by omega) (by omega) (by omega) (by omega)).mono ?_
              rw [E3.out]
              rintro e x4 ⟨rfl, hs4, hch4⟩
              have hb4 := hb3.trans (hch4.below (fun k e => by omega) hb3.size)
              go_wp2_with fail
              rw [show (k : Int) + 1 = ((k + 1 : Nat) : Int) from by omega]
              refine (move_any _ _ _ _ hs4 (by omega) (by omega) (by omega) (by omega) (by omega) (by omega)).mono ?_
              rw [E4.out, E5.out]
              rintro e x5 ⟨rfl, hs5, hch5⟩
              have hb5 := hb4.trans (hch5.below (fun k e => by omega) hb4.size)
              go_wp2
              go_ret
              exact ⟨rfl, hb5⟩

set_option maxRecDepth 100000 in
theorem lifted (os : Os) (started : os.Started) (H : Type) (enc : TypeId × Value → H) :
    ReturnsInHanded {} Try.checked os 5 .any (Rows.arenaMovesSpec.pre6 enc Try.prog Try.f5 Rows.arenaMovesRow.domain false) (Rows.arenaMovesSpec.post enc Try.prog Try.f5 false true false false) := by
  refine returnsInHanded_of_change (C := Try.checked) own started (by kernel_rfl) Try.func5
    (ChangeSpec.witness6 (enc := enc) (C := Try.checked) false ⟨#[], #[.int .i64 0, .slice none 0 0, .int .i64 0, .int .i64 0, .int .i64 0], []⟩ 8 (by kernel_rfl) (by kernel_rfl) (by kernel_rfl) (by kernel_rfl)) ?_
  intro W base args ds gs before hval0 hW hcnd _
  have hval : ∀ (j : Nat) t v, Try.f5.params[j]? = some t → args[j]? = some v → Value.okWide Try.prog W .any base t v := hval0
  have hW' := hW
  obtain ⟨p, q, hA0, hV, rfl, hfz, hnd⟩ := hW
  have hA : DataW.TrodAll enc Try.prog W 0 (fun _ => true) true Try.f5.params.toList args.toList ds p := hA0
  rw [Try.params5] at hA hval
  obtain ⟨v0, vs0, d0, ds0, p0, q0, hargs, rfl, rfl, h0, r0⟩ := trodAll_cons hA
  obtain ⟨v1, vs1, d1, ds1, p1, q1, rfl, rfl, rfl, h1, r1⟩ := trodAll_cons r0
  obtain ⟨v2, vs2, d2, ds2, p2, q2, rfl, rfl, rfl, h2, r2⟩ := trodAll_cons r1
  obtain ⟨v3, vs3, d3, ds3, p3, q3, rfl, rfl, rfl, h3, r3⟩ := trodAll_cons r2
  obtain ⟨v4, vs4, d4, ds4, p4, q4, rfl, rfl, rfl, h4, r4⟩ := trodAll_cons r3
  obtain ⟨rfl, rfl, rfl⟩ := trodAll_nil r4
  obtain rfl : args = #[v0, v1, v2, v3, v4] := by cases args; simp_all
  obtain ⟨rfl, rfl⟩ := trodVars_none hV
  obtain ⟨a0, rfl, rfl, rfl, w0⟩ := open_int Try.underlying3 (hval 0 3 v0 rfl rfl) h0
  obtain ⟨a1, len1, cap1, rfl⟩ := okWide_slice Try.underlying42 (hval 1 42 v1 rfl rfl)
  have k1 := h1
  have lt1 : ∀ x ∈ p1, x.block < W.heap.size := by obtain ⟨m, hm⟩ := k1; exact DataW.trod_lt m _ _ _ hm
  obtain ⟨z1, w1⟩ := open_row Try.underlying42 Try.underlying32 (by kernel_rfl) h1
  obtain ⟨a2, rfl, rfl, rfl, w2⟩ := open_int Try.underlying3 (hval 2 3 v2 rfl rfl) h2
  obtain ⟨a3, rfl, rfl, rfl, w3⟩ := open_int Try.underlying3 (hval 3 3 v3 rfl rfl) h3
  obtain ⟨a4, rfl, rfl, rfl, w4⟩ := open_int Try.underlying3 (hval 4 3 v4 rfl rfl) h4
  clear hA0 hval0
  refine (walk a0 a1 len1 cap1 z1 a2 a3 a4 W (bounds_i64 w0) w1 (bounds_i64 w2) (bounds_i64 w3) (bounds_i64 w4)).mono fun e W' ⟨he, bel⟩ => ?_
  subst he
  exact ⟨_, rfl, _, _, _, [], _, [], hW', trodAll_mk1 (shut_bool Try.underlying4 _), (trodAll_cons_mk (shut_int Try.underlying3 w0) (trodAll_cons_mk (Below.trod laidOut (by kernel_rfl) (of_decide_eq_true (by kernel_rfl)) k1 bel lt1) (trodAll_cons_mk (shut_int Try.underlying3 w2) (trodAll_cons_mk (shut_int Try.underlying3 w3) (trodAll_cons_mk (shut_int Try.underlying3 w4) trodAll_mk0))))), rfl, bel.frame _, fun h => by cases h⟩

theorem over : Rows.arenaMovesRow.holds Try.pinned (OpenSpec.ofChange Rows.arenaMovesSpec) :=
  OpenClaim.holds_of_wide 5 Try.f5 rfl rfl rfl rfl rfl rfl rfl ⟨rfl, rfl, rfl, rfl, rfl⟩ rfl rfl rfl rfl rfl (by kernel_rfl) Try.func5 (by kernel_rfl)
    (of_decide_eq_true (by kernel_rfl)) (by unfold Func.isWrapper; first | (rw [if_pos (by decide +kernel)]; kernel_rfl) | (rw [if_neg (by decide +kernel)]; exact ⟨rfl, rfl⟩))
    (fun os started H enc _ => lifted os started H enc)

theorem proved : Rows.ArenaMovesSaid := over
#print axioms proved

end Go.Proofs.Ytolfnjmmnaiecaa.arenaMoves
