/- For every size and any ops: words are loaded, stored, filled and moved as the document says: the law ArenaPlays returns true and its arguments read as they did. No condition. -/
import Derived.Test.YtolfnjmmnaiecaaArenaRef
import Derived.Test.YtolfnjmmnaiecaaOpen
namespace Go.Proofs.Ytolfnjmmnaiecaa.arenaPlays
open Go.ChangeShapes Go.WideShapes Go.ChangeAt Go.RowKit
set_option linter.unusedVariables false
set_option linter.unusedSimpArgs false

theorem fill_len (l : List Int) (a n x : Int) : (fillV l a n x).length = l.length := by
  unfold fillV; split <;> simp
theorem move_len (l : List Int) (a c n : Int) : (moveV l a c n).length = l.length := by
  unfold moveV; split <;> simp
theorem load_fits {l : List Int} (h : ∀ z ∈ l, 0 ≤ z ∧ z ≤ 18446744073709551615) (a : Int) : 0 ≤ loadV l a ∧ loadV l a ≤ 18446744073709551615 := by
  unfold loadV; split
  · exact getD_fits h _
  · omega

/-- A new arena of the document's own answer. -/
theorem refNew_any (n : Nat) (w : World) (h0 : 1 ≤ n) (h1 : n ≤ 65536) :
    Calls Try.prog 11 #[.int .i64 n] w fun e w' => ∃ p b, e = .returned (.tuple #[.pointer (some ⟨p, 0, none⟩), .int .i64 0]) ∧ ArenaAt 50 w' p b (List.replicate n 0) ∧ w.heap.size ≤ p ∧ w.heap.size ≤ b ∧ Below w.heap.size w w' := by
  refine (ref.new_yes n w (by omega) (by omega)).mono ?_
  rintro e w' ⟨rfl, ha, hs, hb⟩
  exact ⟨_, _, rfl, by simpa using ha, by omega, by omega, hb⟩




set_option maxRecDepth 100000 in
set_option maxHeartbeats 8000000 in
theorem walk (a0 : Int) (a1 : Option Addr) (len1 cap1 : Nat) (z1 : Nat → Nat → Value) (w : World) (w0 : -9223372036854775808 ≤ a0 ∧ a0 ≤ 9223372036854775807) (w1 : IsFlat opKinds w a1 len1 cap1 z1) :
    Calls Try.prog 3 #[.int .i64 a0, .slice a1 len1 cap1] w fun e w' => e = .returned (.bool true) ∧ Below w.heap.size w w' := by
  obtain ⟨b0, b1⟩ := w0
  obtain ⟨f, hops⟩ := isOps_of_flat w1
  clear w1 z1
  by_cases g : 1 ≤ a0 ∧ a0 ≤ 65536
  · obtain ⟨g0, g1⟩ := g
    go_enter Try.func3, Try.ntmps3
    go_wp2_with fail
    refine (awake_any _).mono ?_
    rintro e x1 ⟨rfl, hb1⟩
    go_wp2_with fail
    refine (new_yes _ _ g0 g1).mono ?_
    rintro e x2 ⟨rfl, -, -, hb2⟩
    have hB2 := hb1.trans (hb2.mono hb1.size)
    go_wp2_with fail
    refine (ref.new_yes _ _ g0 g1).mono ?_
    rintro e x3 ⟨rfl, -, -, hb3⟩
    have hB3 := hB2.trans (hb3.mono hB2.size)
    clear hb1 hb2 hb3 hB2
    go_wp2_with fail
    refine (pick_nat _ 40 _ b0 b1 (by decide) (by decide)).mono ?_
    rintro e y ⟨k, hk, rfl, rfl⟩
    go_wp2_with fail
    rw [show (1 : Int) + (k : Int) = ((k + 1 : Nat) : Int) from by omega]
    refine (new_any (k + 1) _ (by omega) (by omega)).mono ?_
    rintro e x4 ⟨p, b, rfl, h1, hp, hb, hb4⟩
    have hl1 := h1.lt
    go_wp2_with fail
    rw [show (k : Int) + 1 = ((k + 1 : Nat) : Int) from by omega]
    refine (refNew_any (k + 1) _ (by omega) (by omega)).mono ?_
    rintro e x5 ⟨q, c, rfl, h2, hq, hc, hb5⟩
    have h1 := h1.below hb5 h1.lt.1 h1.lt.2
    have hB5 : Below w.heap.size w x5 := (hB3.trans (hb4.mono hB3.size)).trans (hb5.mono (Nat.le_trans hB3.size hb4.size))
    have l1 : w.heap.size ≤ p := Nat.le_trans hB3.size hp
    have l2 : w.heap.size ≤ b := Nat.le_trans hB3.size hb
    have l3 : w.heap.size ≤ q := Nat.le_trans (Nat.le_trans hB3.size hb4.size) hq
    have l4 : w.heap.size ≤ c := Nat.le_trans (Nat.le_trans hB3.size hb4.size) hc
    have n1 : ¬ q = b := by omega
    have n2 : ¬ c = b := by omega
    have n3 : ¬ p = c := by omega
    have n4 : ¬ b = c := by omega
    clear hb4 hb5 hp hq hb hc hl1 hB3
    go_wp2
    go_loopw [14] (fun i wr => ∃ (j : Nat) (l : List Int), j ≤ 60 ∧ i = .int .i64 j ∧ Hid (l.length = k + 1) ∧ ArenaAt 48 wr p b l ∧ ArenaAt 50 wr q c l ∧ Below w.heap.size w wr) (fun i _ => 60 - (intOf i).toNat)
    case atStart => exact ⟨0, _, by omega, rfl, List.length_replicate .., h1, h2, hB5⟩
    case round =>
      obtain ⟨j, l, hj, rfl, hll, ha, hq, hbw⟩ := hrel
      by_cases h0 : j < len1
      · by_cases h60 : j < 60
        · have hd : decide ((j : Int) < 60) = true := by simp; omega
          rcases hops with ⟨e, -⟩ | ⟨bo, off, rfl, hbo, hlc, hcm, hcell⟩
          · exact absurd h0 (by omega)
          · obtain ⟨⟨ck, ca, cb, cn, cw⟩, fk, fa, fb, fn, fw⟩ := hcell j (by omega)
            have ck := (hbw.cell (p := ⟨bo, off + j * 5, none⟩) hbo).trans ck
            have ca := (hbw.cell (p := ⟨bo, off + j * 5 + 1, none⟩) hbo).trans ca
            have cb := (hbw.cell (p := ⟨bo, off + j * 5 + 2, none⟩) hbo).trans cb
            have cn := (hbw.cell (p := ⟨bo, off + j * 5 + 3, none⟩) hbo).trans cn
            have cw := (hbw.cell (p := ⟨bo, off + j * 5 + 4, none⟩) hbo).trans cw
            generalize (f j).k = xk at ck fk
            generalize (f j).a = xa at ca fa
            generalize (f j).b = xb at cb fb
            generalize (f j).n = xn at cn fn
            generalize (f j).w = xw at cw fw
            clear hcell hlc hcm
            go_wp2_with fail
            refine (pick_nat _ 4 _ fk.1 fk.2 (by decide) (by decide)).mono ?_
            rintro e y0 ⟨κ, hκ, rfl, rfl⟩
            have hay := ha.chg ((Chg.refl (fun _ => False) wr).alloc (.cells #[.int .i64 xk, .int .i64 xa, .int .i64 xb, .int .i64 xn, .int .u64 xw] 34)) (fun h => h) (fun h => h)
            have hqy := hq.chg ((Chg.refl (fun _ => False) wr).alloc (.cells #[.int .i64 xk, .int .i64 xa, .int .i64 xb, .int .i64 xn, .int .u64 xw] 34)) (fun h => h) (fun h => h)
            have hby := hbw.alloc hbw.size (.cells #[.int .i64 xk, .int .i64 xa, .int .i64 xb, .int .i64 xn, .int .u64 xw] 34)
            have hO := BlkIs.new wr #[.int .i64 xk, .int .i64 xa, .int .i64 xb, .int .i64 xn, .int .u64 xw] 34
            have hlw := ha.lt
            have hlq := hq.lt
            obtain ⟨y0, hy0⟩ : ∃ y0, wr.alloc (.cells #[.int .i64 xk, .int .i64 xa, .int .i64 xb, .int .i64 xn, .int .u64 xw] 34) = y0 := ⟨_, rfl⟩
            rw [hy0] at hay hqy hby hO ⊢
            clear hy0
            obtain ⟨ob, hob⟩ : ∃ ob, wr.heap.size = ob := ⟨_, rfl⟩
            have nb1 : ¬ ob = b := by omega
            have nb2 : ¬ ob = c := by omega
            rw [hob] at hO ⊢
            clear hob ck ca cb cn cw hlw hlq
            have ca := hO.cell 1
            have cb := hO.cell 2
            have cn := hO.cell 3
            have cw := hO.cell 4
            simp only [List.getElem?_toArray, List.getElem?_cons_succ, List.getElem?_cons_zero] at ca cb cn cw
            have holt := hO.lt
            obtain rfl | rfl | rfl | rfl : κ = 0 ∨ κ = 1 ∨ κ = 2 ∨ κ = 3 := by omega
            · go_wp2_with fail
              refine (store_any _ _ _ hay fa.1 fa.2 fw).mono ?_
              rintro e y1 ⟨rfl, ha1, hch⟩
              have ca := (hch.cell (p := ⟨ob, 1, none⟩) holt nb1).trans ca
              have cw := (hch.cell (p := ⟨ob, 4, none⟩) holt nb1).trans cw
              have hq1 := hqy.chg hch n1 n2
              have hb1 := hby.trans (hch.below (fun k e => by omega) hby.size)
              clear hay hqy hch
              go_wp2_with fail
              refine (ref.store_any _ _ _ hq1 fa.1 fa.2 fw).mono ?_
              rintro e y2 ⟨rfl, hq', hch⟩
              have ha' := ha1.chg hch n3 n4
              have hbz := hb1.trans (hch.below (fun k e => by omega) hb1.size)
              have HL' : Hid ((fillV l xa 1 xw).length = k + 1) := (fill_len _ _ _ _).trans hll.out
              clear ha1 hq1 hch hb1
              go_wp2_with fail
              refine (len_any _ ha').mono ?_
              rintro e y1 ⟨rfl, rfl⟩
              go_wp2_with fail
              refine (ref.len_any _ hq').mono ?_
              rintro e y1 ⟨rfl, rfl⟩
              go_wp2
              go_loop [22] (fun i => ∃ m : Nat, m ≤ k + 1 ∧ i = .int .i64 m) (fun i => k + 1 - (intOf i).toNat)
              case atStart => exact ⟨0, by omega, rfl⟩
              case round =>
                obtain ⟨m, hm, rfl⟩ := hrel
                by_cases hlt : m < k + 1
                · go_wp2_with fail
                  refine (load_any _ _ ha' (by omega) (by omega)).mono ?_
                  rintro e y1 ⟨rfl, rfl⟩
                  go_wp2_with fail
                  refine (ref.load_any _ _ hq' (by omega) (by omega)).mono ?_
                  rintro e y1 ⟨rfl, rfl⟩
                  go_wp2
                  go_round
                  case rel => exact ⟨m + 1, by omega, by go_num⟩
                  case measure => simp [intOf]; omega
                · go_wp2
                  go_roundw
                  case rel => exact ⟨j + 1, _, by omega, by go_num, HL', ha', hq', hbz⟩
                  case measure => simp [intOf]; omega
            · go_wp2_with fail
              refine (fill_any _ _ _ _ hay fa.1 fa.2 fn.1 fn.2 fw).mono ?_
              rintro e y1 ⟨rfl, ha1, hch⟩
              have ca := (hch.cell (p := ⟨ob, 1, none⟩) holt nb1).trans ca
              have cn := (hch.cell (p := ⟨ob, 3, none⟩) holt nb1).trans cn
              have cw := (hch.cell (p := ⟨ob, 4, none⟩) holt nb1).trans cw
              have hq1 := hqy.chg hch n1 n2
              have hb1 := hby.trans (hch.below (fun k e => by omega) hby.size)
              clear hay hqy hch
              go_wp2_with fail
              refine (ref.fill_any _ _ _ _ hq1 fa.1 fa.2 fn.1 fn.2 fw).mono ?_
              rintro e y2 ⟨rfl, hq', hch⟩
              have ha' := ha1.chg hch n3 n4
              have hbz := hb1.trans (hch.below (fun k e => by omega) hb1.size)
              have HL' : Hid ((fillV l xa xn xw).length = k + 1) := (fill_len _ _ _ _).trans hll.out
              clear ha1 hq1 hch hb1
              go_wp2_with fail
              refine (len_any _ ha').mono ?_
              rintro e y1 ⟨rfl, rfl⟩
              go_wp2_with fail
              refine (ref.len_any _ hq').mono ?_
              rintro e y1 ⟨rfl, rfl⟩
              go_wp2
              go_loop [22] (fun i => ∃ m : Nat, m ≤ k + 1 ∧ i = .int .i64 m) (fun i => k + 1 - (intOf i).toNat)
              case atStart => exact ⟨0, by omega, rfl⟩
              case round =>
                obtain ⟨m, hm, rfl⟩ := hrel
                by_cases hlt : m < k + 1
                · go_wp2_with fail
                  refine (load_any _ _ ha' (by omega) (by omega)).mono ?_
                  rintro e y1 ⟨rfl, rfl⟩
                  go_wp2_with fail
                  refine (ref.load_any _ _ hq' (by omega) (by omega)).mono ?_
                  rintro e y1 ⟨rfl, rfl⟩
                  go_wp2
                  go_round
                  case rel => exact ⟨m + 1, by omega, by go_num⟩
                  case measure => simp [intOf]; omega
                · go_wp2
                  go_roundw
                  case rel => exact ⟨j + 1, _, by omega, by go_num, HL', ha', hq', hbz⟩
                  case measure => simp [intOf]; omega
            · go_wp2_with fail
              refine (move_any _ _ _ _ hay fa.1 fa.2 fb.1 fb.2 fn.1 fn.2).mono ?_
              rintro e y1 ⟨rfl, ha1, hch⟩
              have ca := (hch.cell (p := ⟨ob, 1, none⟩) holt nb1).trans ca
              have cb := (hch.cell (p := ⟨ob, 2, none⟩) holt nb1).trans cb
              have cn := (hch.cell (p := ⟨ob, 3, none⟩) holt nb1).trans cn
              have hq1 := hqy.chg hch n1 n2
              have hb1 := hby.trans (hch.below (fun k e => by omega) hby.size)
              clear hay hqy hch
              go_wp2_with fail
              refine (ref.move_any _ _ _ _ hq1 fa.1 fa.2 fb.1 fb.2 fn.1 fn.2).mono ?_
              rintro e y2 ⟨rfl, hq', hch⟩
              have ha' := ha1.chg hch n3 n4
              have hbz := hb1.trans (hch.below (fun k e => by omega) hb1.size)
              have HL' : Hid ((moveV l xa xb xn).length = k + 1) := (move_len _ _ _ _).trans hll.out
              clear ha1 hq1 hch hb1
              go_wp2_with fail
              refine (len_any _ ha').mono ?_
              rintro e y1 ⟨rfl, rfl⟩
              go_wp2_with fail
              refine (ref.len_any _ hq').mono ?_
              rintro e y1 ⟨rfl, rfl⟩
              go_wp2
              go_loop [22] (fun i => ∃ m : Nat, m ≤ k + 1 ∧ i = .int .i64 m) (fun i => k + 1 - (intOf i).toNat)
              case atStart => exact ⟨0, by omega, rfl⟩
              case round =>
                obtain ⟨m, hm, rfl⟩ := hrel
                by_cases hlt : m < k + 1
                · go_wp2_with fail
                  refine (load_any _ _ ha' (by omega) (by omega)).mono ?_
                  rintro e y1 ⟨rfl, rfl⟩
                  go_wp2_with fail
                  refine (ref.load_any _ _ hq' (by omega) (by omega)).mono ?_
                  rintro e y1 ⟨rfl, rfl⟩
                  go_wp2
                  go_round
                  case rel => exact ⟨m + 1, by omega, by go_num⟩
                  case measure => simp [intOf]; omega
                · go_wp2
                  go_roundw
                  case rel => exact ⟨j + 1, _, by omega, by go_num, HL', ha', hq', hbz⟩
                  case measure => simp [intOf]; omega
            · go_wp2_with fail
              refine (load_any _ _ hay fa.1 fa.2).mono ?_
              rintro e y1 ⟨rfl, rfl⟩
              go_wp2_with fail
              refine (ref.load_any _ _ hqy fa.1 fa.2).mono ?_
              rintro e y1 ⟨rfl, rfl⟩
              have ha' := hay
              have hq' := hqy
              have hbz := hby
              have HL' := hll
              clear hay hqy
              go_wp2_with fail
              refine (len_any _ ha').mono ?_
              rintro e y1 ⟨rfl, rfl⟩
              go_wp2_with fail
              refine (ref.len_any _ hq').mono ?_
              rintro e y1 ⟨rfl, rfl⟩
              go_wp2
              go_loop [22] (fun i => ∃ m : Nat, m ≤ k + 1 ∧ i = .int .i64 m) (fun i => k + 1 - (intOf i).toNat)
              case atStart => exact ⟨0, by omega, rfl⟩
              case round =>
                obtain ⟨m, hm, rfl⟩ := hrel
                by_cases hlt : m < k + 1
                · go_wp2_with fail
                  refine (load_any _ _ ha' (by omega) (by omega)).mono ?_
                  rintro e y1 ⟨rfl, rfl⟩
                  go_wp2_with fail
                  refine (ref.load_any _ _ hq' (by omega) (by omega)).mono ?_
                  rintro e y1 ⟨rfl, rfl⟩
                  go_wp2
                  go_round
                  case rel => exact ⟨m + 1, by omega, by go_num⟩
                  case measure => simp [intOf]; omega
                · go_wp2
                  go_roundw
                  case rel => exact ⟨j + 1, _, by omega, by go_num, HL', ha', hq', hbz⟩
                  case measure => simp [intOf]; omega
        · have hd : decide ((j : Int) < 60) = false := by simp; omega
          go_wp2
          go_ret
          exact ⟨rfl, hbw⟩
      · skip
        go_wp2
        go_ret
        exact ⟨rfl, hbw⟩
  · have g' : a0 < 1 ∨ 65536 < a0 := by omega
    go_enter Try.func3, Try.ntmps3
    go_wp2_with fail
    refine (awake_any _).mono ?_
    rintro e x1 ⟨rfl, hB3⟩
    go_wp2_with fail
    refine (new_no _ _ g').mono ?_
    rintro e x2 ⟨rfl, rfl⟩
    go_wp2_with fail
    refine (ref.new_no _ _ g').mono ?_
    rintro e x2 ⟨rfl, rfl⟩
    go_wp2_with fail
    refine (pick_nat _ 40 _ b0 b1 (by decide) (by decide)).mono ?_
    rintro e y ⟨k, hk, rfl, rfl⟩
    go_wp2_with fail
    rw [show (1 : Int) + (k : Int) = ((k + 1 : Nat) : Int) from by omega]
    refine (new_any (k + 1) _ (by omega) (by omega)).mono ?_
    rintro e x4 ⟨p, b, rfl, h1, hp, hb, hb4⟩
    have hl1 := h1.lt
    go_wp2_with fail
    rw [show (k : Int) + 1 = ((k + 1 : Nat) : Int) from by omega]
    refine (refNew_any (k + 1) _ (by omega) (by omega)).mono ?_
    rintro e x5 ⟨q, c, rfl, h2, hq, hc, hb5⟩
    have h1 := h1.below hb5 h1.lt.1 h1.lt.2
    have hB5 : Below w.heap.size w x5 := (hB3.trans (hb4.mono hB3.size)).trans (hb5.mono (Nat.le_trans hB3.size hb4.size))
    have l1 : w.heap.size ≤ p := Nat.le_trans hB3.size hp
    have l2 : w.heap.size ≤ b := Nat.le_trans hB3.size hb
    have l3 : w.heap.size ≤ q := Nat.le_trans (Nat.le_trans hB3.size hb4.size) hq
    have l4 : w.heap.size ≤ c := Nat.le_trans (Nat.le_trans hB3.size hb4.size) hc
    have n1 : ¬ q = b := by omega
    have n2 : ¬ c = b := by omega
    have n3 : ¬ p = c := by omega
    have n4 : ¬ b = c := by omega
    clear hb4 hb5 hp hq hb hc hl1 hB3
    go_wp2
    go_loopw [14] (fun i wr => ∃ (j : Nat) (l : List Int), j ≤ 60 ∧ i = .int .i64 j ∧ Hid (l.length = k + 1) ∧ ArenaAt 48 wr p b l ∧ ArenaAt 50 wr q c l ∧ Below w.heap.size w wr) (fun i _ => 60 - (intOf i).toNat)
    case atStart => exact ⟨0, _, by omega, rfl, List.length_replicate .., h1, h2, hB5⟩
    case round =>
      obtain ⟨j, l, hj, rfl, hll, ha, hq, hbw⟩ := hrel
      by_cases h0 : j < len1
      · by_cases h60 : j < 60
        · have hd : decide ((j : Int) < 60) = true := by simp; omega
          rcases hops with ⟨e, -⟩ | ⟨bo, off, rfl, hbo, hlc, hcm, hcell⟩
          · exact absurd h0 (by omega)
          · obtain ⟨⟨ck, ca, cb, cn, cw⟩, fk, fa, fb, fn, fw⟩ := hcell j (by omega)
            have ck := (hbw.cell (p := ⟨bo, off + j * 5, none⟩) hbo).trans ck
            have ca := (hbw.cell (p := ⟨bo, off + j * 5 + 1, none⟩) hbo).trans ca
            have cb := (hbw.cell (p := ⟨bo, off + j * 5 + 2, none⟩) hbo).trans cb
            have cn := (hbw.cell (p := ⟨bo, off + j * 5 + 3, none⟩) hbo).trans cn
            have cw := (hbw.cell (p := ⟨bo, off + j * 5 + 4, none⟩) hbo).trans cw
            generalize (f j).k = xk at ck fk
            generalize (f j).a = xa at ca fa
            generalize (f j).b = xb at cb fb
            generalize (f j).n = xn at cn fn
            generalize (f j).w = xw at cw fw
            clear hcell hlc hcm
            go_wp2_with fail
            refine (pick_nat _ 4 _ fk.1 fk.2 (by decide) (by decide)).mono ?_
            rintro e y0 ⟨κ, hκ, rfl, rfl⟩
            have hay := ha.chg ((Chg.refl (fun _ => False) wr).alloc (.cells #[.int .i64 xk, .int .i64 xa, .int .i64 xb, .int .i64 xn, .int .u64 xw] 34)) (fun h => h) (fun h => h)
            have hqy := hq.chg ((Chg.refl (fun _ => False) wr).alloc (.cells #[.int .i64 xk, .int .i64 xa, .int .i64 xb, .int .i64 xn, .int .u64 xw] 34)) (fun h => h) (fun h => h)
            have hby := hbw.alloc hbw.size (.cells #[.int .i64 xk, .int .i64 xa, .int .i64 xb, .int .i64 xn, .int .u64 xw] 34)
            have hO := BlkIs.new wr #[.int .i64 xk, .int .i64 xa, .int .i64 xb, .int .i64 xn, .int .u64 xw] 34
            have hlw := ha.lt
            have hlq := hq.lt
            obtain ⟨y0, hy0⟩ : ∃ y0, wr.alloc (.cells #[.int .i64 xk, .int .i64 xa, .int .i64 xb, .int .i64 xn, .int .u64 xw] 34) = y0 := ⟨_, rfl⟩
            rw [hy0] at hay hqy hby hO ⊢
            clear hy0
            obtain ⟨ob, hob⟩ : ∃ ob, wr.heap.size = ob := ⟨_, rfl⟩
            have nb1 : ¬ ob = b := by omega
            have nb2 : ¬ ob = c := by omega
            rw [hob] at hO ⊢
            clear hob ck ca cb cn cw hlw hlq
            have ca := hO.cell 1
            have cb := hO.cell 2
            have cn := hO.cell 3
            have cw := hO.cell 4
            simp only [List.getElem?_toArray, List.getElem?_cons_succ, List.getElem?_cons_zero] at ca cb cn cw
            have holt := hO.lt
            obtain rfl | rfl | rfl | rfl : κ = 0 ∨ κ = 1 ∨ κ = 2 ∨ κ = 3 := by omega
            · go_wp2_with fail
              refine (store_any _ _ _ hay fa.1 fa.2 fw).mono ?_
              rintro e y1 ⟨rfl, ha1, hch⟩
              have ca := (hch.cell (p := ⟨ob, 1, none⟩) holt nb1).trans ca
              have cw := (hch.cell (p := ⟨ob, 4, none⟩) holt nb1).trans cw
              have hq1 := hqy.chg hch n1 n2
              have hb1 := hby.trans (hch.below (fun k e => by omega) hby.size)
              clear hay hqy hch
              go_wp2_with fail
              refine (ref.store_any _ _ _ hq1 fa.1 fa.2 fw).mono ?_
              rintro e y2 ⟨rfl, hq', hch⟩
              have ha' := ha1.chg hch n3 n4
              have hbz := hb1.trans (hch.below (fun k e => by omega) hb1.size)
              have HL' : Hid ((fillV l xa 1 xw).length = k + 1) := (fill_len _ _ _ _).trans hll.out
              clear ha1 hq1 hch hb1
              go_wp2_with fail
              refine (len_any _ ha').mono ?_
              rintro e y1 ⟨rfl, rfl⟩
              go_wp2_with fail
              refine (ref.len_any _ hq').mono ?_
              rintro e y1 ⟨rfl, rfl⟩
              go_wp2
              go_loop [22] (fun i => ∃ m : Nat, m ≤ k + 1 ∧ i = .int .i64 m) (fun i => k + 1 - (intOf i).toNat)
              case atStart => exact ⟨0, by omega, rfl⟩
              case round =>
                obtain ⟨m, hm, rfl⟩ := hrel
                by_cases hlt : m < k + 1
                · go_wp2_with fail
                  refine (load_any _ _ ha' (by omega) (by omega)).mono ?_
                  rintro e y1 ⟨rfl, rfl⟩
                  go_wp2_with fail
                  refine (ref.load_any _ _ hq' (by omega) (by omega)).mono ?_
                  rintro e y1 ⟨rfl, rfl⟩
                  go_wp2
                  go_round
                  case rel => exact ⟨m + 1, by omega, by go_num⟩
                  case measure => simp [intOf]; omega
                · go_wp2
                  go_roundw
                  case rel => exact ⟨j + 1, _, by omega, by go_num, HL', ha', hq', hbz⟩
                  case measure => simp [intOf]; omega
            · go_wp2_with fail
              refine (fill_any _ _ _ _ hay fa.1 fa.2 fn.1 fn.2 fw).mono ?_
              rintro e y1 ⟨rfl, ha1, hch⟩
              have ca := (hch.cell (p := ⟨ob, 1, none⟩) holt nb1).trans ca
              have cn := (hch.cell (p := ⟨ob, 3, none⟩) holt nb1).trans cn
              have cw := (hch.cell (p := ⟨ob, 4, none⟩) holt nb1).trans cw
              have hq1 := hqy.chg hch n1 n2
              have hb1 := hby.trans (hch.below (fun k e => by omega) hby.size)
              clear hay hqy hch
              go_wp2_with fail
              refine (ref.fill_any _ _ _ _ hq1 fa.1 fa.2 fn.1 fn.2 fw).mono ?_
              rintro e y2 ⟨rfl, hq', hch⟩
              have ha' := ha1.chg hch n3 n4
              have hbz := hb1.trans (hch.below (fun k e => by omega) hb1.size)
              have HL' : Hid ((fillV l xa xn xw).length = k + 1) := (fill_len _ _ _ _).trans hll.out
              clear ha1 hq1 hch hb1
              go_wp2_with fail
              refine (len_any _ ha').mono ?_
              rintro e y1 ⟨rfl, rfl⟩
              go_wp2_with fail
              refine (ref.len_any _ hq').mono ?_
              rintro e y1 ⟨rfl, rfl⟩
              go_wp2
              go_loop [22] (fun i => ∃ m : Nat, m ≤ k + 1 ∧ i = .int .i64 m) (fun i => k + 1 - (intOf i).toNat)
              case atStart => exact ⟨0, by omega, rfl⟩
              case round =>
                obtain ⟨m, hm, rfl⟩ := hrel
                by_cases hlt : m < k + 1
                · go_wp2_with fail
                  refine (load_any _ _ ha' (by omega) (by omega)).mono ?_
                  rintro e y1 ⟨rfl, rfl⟩
                  go_wp2_with fail
                  refine (ref.load_any _ _ hq' (by omega) (by omega)).mono ?_
                  rintro e y1 ⟨rfl, rfl⟩
                  go_wp2
                  go_round
                  case rel => exact ⟨m + 1, by omega, by go_num⟩
                  case measure => simp [intOf]; omega
                · go_wp2
                  go_roundw
                  case rel => exact ⟨j + 1, _, by omega, by go_num, HL', ha', hq', hbz⟩
                  case measure => simp [intOf]; omega
            · go_wp2_with fail
              refine (move_any _ _ _ _ hay fa.1 fa.2 fb.1 fb.2 fn.1 fn.2).mono ?_
              rintro e y1 ⟨rfl, ha1, hch⟩
              have ca := (hch.cell (p := ⟨ob, 1, none⟩) holt nb1).trans ca
              have cb := (hch.cell (p := ⟨ob, 2, none⟩) holt nb1).trans cb
              have cn := (hch.cell (p := ⟨ob, 3, none⟩) holt nb1).trans cn
              have hq1 := hqy.chg hch n1 n2
              have hb1 := hby.trans (hch.below (fun k e => by omega) hby.size)
              clear hay hqy hch
              go_wp2_with fail
              refine (ref.move_any _ _ _ _ hq1 fa.1 fa.2 fb.1 fb.2 fn.1 fn.2).mono ?_
              rintro e y2 ⟨rfl, hq', hch⟩
              have ha' := ha1.chg hch n3 n4
              have hbz := hb1.trans (hch.below (fun k e => by omega) hb1.size)
              have HL' : Hid ((moveV l xa xb xn).length = k + 1) := (move_len _ _ _ _).trans hll.out
              clear ha1 hq1 hch hb1
              go_wp2_with fail
              refine (len_any _ ha').mono ?_
              rintro e y1 ⟨rfl, rfl⟩
              go_wp2_with fail
              refine (ref.len_any _ hq').mono ?_
              rintro e y1 ⟨rfl, rfl⟩
              go_wp2
              go_loop [22] (fun i => ∃ m : Nat, m ≤ k + 1 ∧ i = .int .i64 m) (fun i => k + 1 - (intOf i).toNat)
              case atStart => exact ⟨0, by omega, rfl⟩
              case round =>
                obtain ⟨m, hm, rfl⟩ := hrel
                by_cases hlt : m < k + 1
                · go_wp2_with fail
                  refine (load_any _ _ ha' (by omega) (by omega)).mono ?_
                  rintro e y1 ⟨rfl, rfl⟩
                  go_wp2_with fail
                  refine (ref.load_any _ _ hq' (by omega) (by omega)).mono ?_
                  rintro e y1 ⟨rfl, rfl⟩
                  go_wp2
                  go_round
                  case rel => exact ⟨m + 1, by omega, by go_num⟩
                  case measure => simp [intOf]; omega
                · go_wp2
                  go_roundw
                  case rel => exact ⟨j + 1, _, by omega, by go_num, HL', ha', hq', hbz⟩
                  case measure => simp [intOf]; omega
            · go_wp2_with fail
              refine (load_any _ _ hay fa.1 fa.2).mono ?_
              rintro e y1 ⟨rfl, rfl⟩
              go_wp2_with fail
              refine (ref.load_any _ _ hqy fa.1 fa.2).mono ?_
              rintro e y1 ⟨rfl, rfl⟩
              have ha' := hay
              have hq' := hqy
              have hbz := hby
              have HL' := hll
              clear hay hqy
              go_wp2_with fail
              refine (len_any _ ha').mono ?_
              rintro e y1 ⟨rfl, rfl⟩
              go_wp2_with fail
              refine (ref.len_any _ hq').mono ?_
              rintro e y1 ⟨rfl, rfl⟩
              go_wp2
              go_loop [22] (fun i => ∃ m : Nat, m ≤ k + 1 ∧ i = .int .i64 m) (fun i => k + 1 - (intOf i).toNat)
              case atStart => exact ⟨0, by omega, rfl⟩
              case round =>
                obtain ⟨m, hm, rfl⟩ := hrel
                by_cases hlt : m < k + 1
                · go_wp2_with fail
                  refine (load_any _ _ ha' (by omega) (by omega)).mono ?_
                  rintro e y1 ⟨rfl, rfl⟩
                  go_wp2_with fail
                  refine (ref.load_any _ _ hq' (by omega) (by omega)).mono ?_
                  rintro e y1 ⟨rfl, rfl⟩
                  go_wp2
                  go_round
                  case rel => exact ⟨m + 1, by omega, by go_num⟩
                  case measure => simp [intOf]; omega
                · go_wp2
                  go_roundw
                  case rel => exact ⟨j + 1, _, by omega, by go_num, HL', ha', hq', hbz⟩
                  case measure => simp [intOf]; omega
        · have hd : decide ((j : Int) < 60) = false := by simp; omega
          go_wp2
          go_ret
          exact ⟨rfl, hbw⟩
      · skip
        go_wp2
        go_ret
        exact ⟨rfl, hbw⟩

set_option maxRecDepth 100000 in
theorem lifted (os : Os) (started : os.Started) (H : Type) (enc : TypeId × Value → H) :
    ReturnsInHanded {} Try.checked os 3 .any (Rows.arenaPlaysSpec.pre6 enc Try.prog Try.f3 Rows.arenaPlaysRow.domain false) (Rows.arenaPlaysSpec.post enc Try.prog Try.f3 false true false false) := by
  refine returnsInHanded_of_change (C := Try.checked) own started (by kernel_rfl) Try.func3
    (ChangeSpec.witness6 (enc := enc) (C := Try.checked) false ⟨#[], #[.int .i64 0, .slice none 0 0], []⟩ 8 (by kernel_rfl) (by kernel_rfl) (by kernel_rfl) (by kernel_rfl)) ?_
  intro W base args ds gs before hval0 hW hcnd _
  have hval : ∀ (j : Nat) t v, Try.f3.params[j]? = some t → args[j]? = some v → Value.okWide Try.prog W .any base t v := hval0
  have hW' := hW
  obtain ⟨p, q, hA0, hV, rfl, hfz, hnd⟩ := hW
  have hA : DataW.TrodAll enc Try.prog W 0 (fun _ => true) true Try.f3.params.toList args.toList ds p := hA0
  rw [Try.params3] at hA hval
  obtain ⟨v0, vs0, d0, ds0, p0, q0, hargs, rfl, rfl, h0, r0⟩ := trodAll_cons hA
  obtain ⟨v1, vs1, d1, ds1, p1, q1, rfl, rfl, rfl, h1, r1⟩ := trodAll_cons r0
  obtain ⟨rfl, rfl, rfl⟩ := trodAll_nil r1
  obtain rfl : args = #[v0, v1] := by cases args; simp_all
  obtain ⟨rfl, rfl⟩ := trodVars_none hV
  obtain ⟨a0, rfl, rfl, rfl, w0⟩ := open_int Try.underlying3 (hval 0 3 v0 rfl rfl) h0
  obtain ⟨a1, len1, cap1, rfl⟩ := okWide_slice Try.underlying22 (hval 1 22 v1 rfl rfl)
  have k1 := h1
  have lt1 : ∀ x ∈ p1, x.block < W.heap.size := by obtain ⟨m, hm⟩ := k1; exact DataW.trod_lt m _ _ _ hm
  obtain ⟨z1, w1⟩ := open_flats (n := 8) (ks := opKinds) Try.underlying22 (by kernel_rfl) (by kernel_rfl) (by decide) h1
  clear hA0 hval0
  refine (walk a0 a1 len1 cap1 z1 W (bounds_i64 w0) w1).mono fun e W' ⟨he, bel⟩ => ?_
  subst he
  exact ⟨_, rfl, _, _, _, [], _, [], hW', trodAll_mk1 (shut_bool Try.underlying4 _), (trodAll_cons_mk (shut_int Try.underlying3 w0) (trodAll_cons_mk (Below.trod laidOut (by kernel_rfl) (of_decide_eq_true (by kernel_rfl)) k1 bel lt1) trodAll_mk0)), rfl, bel.frame _, fun h => by cases h⟩

theorem over : Rows.arenaPlaysRow.holds Try.pinned (OpenSpec.ofChange Rows.arenaPlaysSpec) :=
  OpenClaim.holds_of_wide 3 Try.f3 rfl rfl rfl rfl rfl rfl rfl ⟨rfl, rfl, rfl, rfl, rfl⟩ rfl rfl rfl rfl rfl (by kernel_rfl) Try.func3 (by kernel_rfl)
    (of_decide_eq_true (by kernel_rfl)) (by unfold Func.isWrapper; first | (rw [if_pos (by decide +kernel)]; kernel_rfl) | (rw [if_neg (by decide +kernel)]; exact ⟨rfl, rfl⟩))
    (fun os started H enc _ => lifted os started H enc)

theorem proved : Rows.ArenaPlaysSaid := over
#print axioms proved

end Go.Proofs.Ytolfnjmmnaiecaa.arenaPlays
