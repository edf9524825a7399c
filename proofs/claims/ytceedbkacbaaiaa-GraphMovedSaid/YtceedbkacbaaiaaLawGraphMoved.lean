/- For every raw objects, roots and orders of copying: objects that lie elsewhere, all pointers turned to where they are, have the same Canon: the law GraphMoved returns true and its arguments read as they did. No condition. -/
import Derived.Test.YtceedbkacbaaiaaGraphNow
import Derived.Test.YtceedbkacbaaiaaAppend
import Derived.Test.YtceedbkacbaaiaaSized
namespace Go.Proofs.Ytceedbkacbaaiaa.graphMoved
open Go.ChangeShapes Go.WideShapes Go.ChangeAt Go.RowKit
set_option linter.unusedVariables false
set_option linter.unusedSimpArgs false

/-- Copy, of one that is there or has gone already. -/
theorem copy_some {P b m st kk : Nat} {l1 l2 : List Int} {os : Nat → Ob} {np : Nat → Nat} (h : Cpd l1 l2 os m np st) (ho : ObsAt l1 1 os m) (hoff : off os m ≤ 150) (hl : l1.length = 400) (hk : kk < m) :
    ∃ (st' r : Nat) (l3 : List Int) (np' : Nat → Nat), (∀ y, ArenaAt 65 y P b l2 → Calls Try.prog 16 #[.pointer (some ⟨P, 0, none⟩), .int .i64 (1 + off os kk : Nat), .agg #[.int .i64 200, .int .i64 200, .int .i64 st]] y fun e y' =>
      e = .returned (.tuple #[.agg #[.int .i64 200, .int .i64 200, .int .i64 st'], .int .i64 r, .int .i64 0]) ∧ ArenaAt 65 y' P b l3 ∧ Chg (· = b) y y') ∧ Cpd l1 l3 os m np' st' ∧ np' kk ≠ 0 ∧ ∀ j, np j ≠ 0 → np' j ≠ 0 := by
  have hr := h.room hoff
  have hlen := h.len
  by_cases hn : np kk = 0
  · have hO := h.obj ho hk hn
    have hmr := h.more hoff hk hn
    have e : 3 + (os kk).p + (os kk).d = (os kk).n := rfl
    refine ⟨st + Cls.rd (os kk).n, st, copyL l2 (1 + off os kk) st (os kk).n, fun j => if j = kk then st else np j, fun y hy => ?_, h.step ho hoff hl hk hn, (show (if kk = kk then st else np kk) ≠ 0 by rw [if_pos rfl]; omega), fun j hj => (show (if j = kk then st else np j) ≠ 0 from ?_)⟩
    · have hnn := Ob.n_le hO.ptrs hO.data
      have hge := Cls.rd_ge (m := (os kk).n) (by omega)
      have := copy_yes (1 + off os kk) 200 200 st y hy hO ⟨by omega, by omega, by omega, by omega⟩ (by omega) (by rw [e]; omega) (by rw [e]; omega)
      exact this
    · split <;> omega
  · have hg := h.gone kk hk hn
    have hnw := h.new kk hk hn
    have hO := ho kk hk
    refine ⟨st, np kk, l2, np, fun y hy => ?_, h, hn, fun _ hj => hj⟩
    refine (copy_gone (1 + off os kk) (np kk) 200 200 st y hy (by rw [hlen]; have := hO.room; omega) (by omega) (by omega) hg).mono ?_
    rintro e x ⟨rfl, hb⟩
    exact ⟨rfl, hy.below hb hy.lt.1 hy.lt.2, Chg.of_below hb (Nat.le_refl _)⟩

set_option maxRecDepth 100000 in
set_option maxHeartbeats 16000000 in
theorem walk (a0 : Option Addr) (len0 cap0 : Nat) (z0 : Nat → RawN) (a1 : Option Addr) (len1 cap1 : Nat) (z1 : List Int) (a2 : Option Addr) (len2 cap2 : Nat) (z2 : List Int) (w : World) (hR : RawsAt w.heap.size w a0 len0 z0) (h1 : IsRow .i64 w a1 len1 cap1 z1) (h2 : IsRow .i64 w a2 len2 cap2 z2) (hm2 : len2 ≤ 17592186044416) :
    Calls Try.prog 4 #[.slice a0 len0 cap0, .slice a1 len1 cap1, .slice a2 len2 cap2] w fun e w' => e = .returned (.bool true) ∧ Below w.heap.size w w' := by
  obtain ⟨i0, hi, iz0, iz1, iz2⟩ := info_parts infoInt
  have hr1 := rowAt_of h1
  have hr2 := rowAt_of h2
  clear h1 h2
  obtain ⟨n₀, hn0⟩ : ∃ n, w.heap.size = n := ⟨_, rfl⟩
  have Hn0 := Lib.hid hn0
  rw [hn0] at hR hr1 hr2
  clear hn0
  go_enter Try.func4, Try.ntmps4
  go_wp2_with fail
  refine (awake_yes _).mono ?_
  rintro e x ⟨rfl, hB⟩
  go_wp2_with fail
  refine (new_any 400 _ (by omega) (by omega)).mono ?_
  rintro e y1 ⟨P, b, rfl, hA, hP, hb, hn⟩
  have hxs := hB.size
  have hwb : n₀ ≤ b := by have := Hn0.out; omega
  replace hB := hB.trans (hn.mono hB.size)
  have hB0 : Below n₀ w y1 := by rw [Hn0.out] at hB; exact hB
  have hs1 := hB0.size
  have hn1 : n₀ ≤ y1.heap.size := by have := Hn0.out; omega
  have k8 := BlkIs.new y1 #[.pointer (some ⟨P, 0, none⟩)] 25
  have hba := (Below.refl y1.heap.size y1).alloc (Nat.le_refl _) (.cells #[.pointer (some ⟨P, 0, none⟩)] 25)
  have hAl := hA.lt
  have hl0z : (List.replicate 400 (0 : Int)).getD 0 0 = 0 := by decide
  replace hA := hA.below hba hAl.1 hAl.2
  replace hB0 := hB0.trans (hba.mono hn1)
  have hx1 := hba.size
  clear hn hP hb hxs hba hB
  go_wp2_with fail
  obtain ⟨ab, hab⟩ : ∃ q, y1.heap.size = q := ⟨_, rfl⟩
  rw [hab] at k8 hAl hn1 hx1 ⊢
  generalize y1.alloc (.cells #[.pointer (some ⟨P, 0, none⟩)] 25) = x1 at *
  clear hab hs1 y1
  have hab := k8.lt
  have nab : ¬ ab = b := by omega
  have M1 := lay_more n₀ P b 400 len0 cap0 a0 z0 _ x1 hA List.length_replicate (by omega) hwb (by omega) (hR.below hB0)
  clear hA
  refine M1.mono ?_
  rintro e x2 ⟨sv, m, os, l, rfl, hm, hA, hl, hobs, hoff, hown, hc, hml, hser, hl0⟩
  rw [hl0z] at hl0
  replace hB0 := hB0.trans (hc.below (fun k e => by omega) (by omega))
  have hx2 := hc.size
  replace k8 := k8.chg hc nab
  clear hc M1 hl0z
  obtain ⟨wa, wc, rfl, hwh⟩ := where_of hown
  have M1 := link_any n₀ P b m len0 cap0 a0 wa wc z0 os l x2 hA hwb (by omega) (hR.below hB0) hml hm hobs hoff (fun h => by
    obtain ⟨g, e, h1, h2, h3, h4⟩ := hwh h
    exact ⟨g, e, h1, h2, by omega, h4⟩)
  have c8 : x2.cell? ⟨ab, 0, none⟩ = some (.pointer (some ⟨P, 0, none⟩)) := k8.cell 0
  clear hown
  go_wp2_with fail
  clear c8
  refine M1.mono ?_
  rintro e x3 ⟨l1, rfl, hA3, hL, hc⟩
  replace hB0 := hB0.trans (hc.below (fun k e => by omega) (by omega))
  have hV := objV_linked hobs hL hser hm
  have hl1 : l1.length = 400 := by rw [hL.len]; exact hl
  have hz1' : l1.getD 0 0 = 0 := by rw [hL.zero]; exact hl0
  have hobs1 := hL.obs hobs
  have hw3 : 0 < m → ∃ g, wa = some ⟨g, 0, none⟩ ∧ m ≤ wc ∧ g < x3.heap.size ∧ ∀ j, j < m → x3.cell? ⟨g, j, none⟩ = some (.int .i64 (1 + off os j : Nat)) := fun h => by
    obtain ⟨g, e, h1, h2, h3, h4⟩ := hwh h
    exact ⟨g, e, h1, Nat.lt_of_lt_of_le h2 hc.size, fun j hj => (hc.cell (p := ⟨g, j, none⟩) h2 (by show ¬ g = b; omega)).trans (h4 j hj)⟩
  have hwb3 : 0 < m → ∃ g, wa = some ⟨g, 0, none⟩ ∧ b < g := fun h => by
    obtain ⟨g, e, h1, h2, h3, h4⟩ := hwh h
    exact ⟨g, e, by omega⟩
  have hx3 := hc.size
  replace k8 := k8.chg hc nab
  clear hc M1 hwh hA hL hser hobs hl0 hl hR
  have M1 := roots_any n₀ m len1 cap1 a1 wa wc (fun j => z1.getD j 0) (fun j => 1 + off os j) x3 (by omega) (hr1.below hB0) hm hw3
  go_wp2_with fail
  refine M1.mono ?_
  rintro e x4 ⟨rv, rs, rfl, hrl, hri, hro, hb⟩
  have hrr := readsAs_of_owns hro
  have hA4 := hA3.below hb hA3.lt.1 hA3.lt.2
  replace hB0 := hB0.trans (hb.mono (by omega))
  replace k8 := k8.on hb
  have hw4 : 0 < m → ∃ g, wa = some ⟨g, 0, none⟩ ∧ m ≤ wc ∧ b < g ∧ g < x4.heap.size ∧ ∀ j, j < m → x4.cell? ⟨g, j, none⟩ = some (.int .i64 (1 + off os j : Nat)) := fun h => by
    obtain ⟨g, e, h1, h2, h4⟩ := hw3 h
    obtain ⟨g', e', h5⟩ := hwb3 h
    rw [e] at e'
    injection e' with e'
    injection e' with e'
    subst e'
    exact ⟨g, e, h1, h5, Nat.lt_of_lt_of_le h2 hb.size, fun j hj => (hb.cell (p := ⟨g, j, none⟩) h2).trans (h4 j hj)⟩
  have hrb : ∀ g, rv.ownBlock = some g → b < g := fun g hg => by have := (own_block hro hg.symm).1; omega
  have hx4 := hb.size
  clear hb M1 hw3 hro hA3 hwb3 hr1
  have hri' := roots_in hri
  clear hri
  have hG : Grph P b l1 (plZ os 1 m) (gOf l1) := grph_of hV (by omega)
  have M1 := canon_any P b l1 (plZ os 1 m) (gOf l1) (nOf l1) rv rs x4 hG (nods_of hV (by omega)) hA4 hrr hri' (by omega)
  have c8 : x4.cell? ⟨ab, 0, none⟩ = some (.pointer (some ⟨P, 0, none⟩)) := k8.cell 0
  go_wp2_with fail
  clear c8
  refine M1.mono ?_
  rintro e x5 ⟨nv, tv, rfl, hN, ht, hb⟩
  clear M1
  have hA5 := hA4.below hb hA4.lt.1 hA4.lt.2
  replace hB0 := hB0.trans (hb.mono (by omega))
  replace k8 := k8.on hb
  replace hrr := hrr.below hb
  have hw5 : 0 < m → ∃ g, wa = some ⟨g, 0, none⟩ ∧ m ≤ wc ∧ b < g ∧ g < x5.heap.size ∧ ∀ j, j < m → x5.cell? ⟨g, j, none⟩ = some (.int .i64 (1 + off os j : Nat)) := fun h => by
    obtain ⟨g, e, h1, h5, h2, h4⟩ := hw4 h
    exact ⟨g, e, h1, h5, Nat.lt_of_lt_of_le h2 hb.size, fun j hj => (hb.cell (p := ⟨g, j, none⟩) h2).trans (h4 j hj)⟩
  have hx5 := hb.size
  clear hb hw4 hA4
  go_wp2_with fail
  refine (make_ok 200 200 ⟨by omega, by omega, by omega, by omega⟩ _).mono ?_
  rintro e x6 ⟨rfl, hb⟩
  have k15 := BlkIs.new x6 #[.int .i64 200, .int .i64 200, .int .i64 200] 41
  have hb1 := hb.alloc hb.size (.cells #[.int .i64 200, .int .i64 200, .int .i64 200] 41)
  have hx6 := hb.size
  go_wp2
  obtain ⟨q15, hq15⟩ : ∃ q, x6.heap.size = q := ⟨_, rfl⟩
  rw [hq15] at k15 hx6 ⊢
  generalize x6.alloc (.cells #[.int .i64 200, .int .i64 200, .int .i64 200] 41) = wo at *
  have hl15 := k15.lt
  have hA6 := hA5.below hb1 hA5.lt.1 hA5.lt.2
  have k8o := k8.on hb1
  have hco := Chg.of_below (S := (· = b)) hb1 (Nat.le_refl _)
  have hl8 := k8.lt
  have hAl := hA5.lt
  have n15 : ¬ q15 = b ∧ ¬ q15 = ab := by omega
  have Hw := Lib.hid hw5
  have HN := Lib.hid hN
  have Ht := Lib.hid ht
  have Hrr := Lib.hid hrr
  have HrB := Lib.hid hrb
  have hil : IntKind.i64.wrap ((len2 : Int) + (m : Int)) = ((len2 + m : Nat) : Int) := by rw [IntWalk.i64_in _ (by omega)]; omega
  clear hq15 hb hb1 hw5 hN ht hrr hrb x6
  go_loopw [17] (fun i wr => ∃ (n : Nat) (l2 : List Int) (np : Nat → Nat) (st : Nat), n ≤ len2 + m ∧ i = .int .i64 n ∧ ArenaAt 65 wr P b l2 ∧ Cpd l1 l2 os m np st ∧ (∀ k, k < m → len2 + k < n → np k ≠ 0) ∧ BlkIs wr ab #[.pointer (some ⟨P, 0, none⟩)] 25 ∧ BlkIs wr q15 #[.int .i64 200, .int .i64 200, .int .i64 st] 41 ∧ Chg (· = b) x5 wr) (fun i _ => len2 + m - (intOf i).toNat)
  case atStart => exact ⟨0, l1, fun _ => 0, 200, by omega, rfl, hA6, cpd_start _ _ _, fun k _ h => by omega, k8o, k15, hco⟩
  case round =>
    clear hA6 k8o k15 hco
    obtain ⟨n, l2, np, st, hn, rfl, hA, hcp, hdone, k8, k15, hc⟩ := hrel
    have hcs := hc.size
    by_cases hlt : n < len2 + m
    · have t0 : decide ((n : Int) < ((len2 + m : Nat) : Int)) = true := decide_eq_true (by omega)
      have t0' : decide (n < len2 + m) = true := decide_eq_true hlt
      by_cases hno : n < len2
      · have i1 : IntKind.i64.wrap ((n : Int) - (len2 : Int)) = (n : Int) - (len2 : Int) := IntWalk.i64_in _ (by omega)
        by_cases hm0 : m = 0
        · subst hm0
          have t1 : decide ((n : Int) - (len2 : Int) < 0) = true := decide_eq_true (by omega)
          go_wp2_with fail
          go_roundw
          case rel => exact ⟨n + 1, l2, np, st, by omega, by go_num, hA, hcp, fun k hk => by omega, k8, k15, hc⟩
          case measure => simp [intOf]; omega
        -- [A
        · have t1 : decide ((m : Int) > 0) = true := decide_eq_true (by omega)
          have t1' : decide (0 < m) = true := decide_eq_true (by omega)
          have hBn := hB0.trans (hc.below (n := n₀) (fun k e => by omega) (by omega))
          rcases hr2 with h | ⟨rb, ro, rfl, hrb, hrm, hrc⟩
          · omega
          · obtain ⟨hcz, hfz⟩ := hrc n hno
            replace hcz := (hBn.cell (p := ⟨rb, ro + n, none⟩) (by show rb < n₀; omega)).trans hcz
            obtain ⟨zz, hzz⟩ : ∃ x, z2.getD n 0 = x := ⟨_, rfl⟩
            dsimp only at hcz hfz
            rw [hzz] at hcz hfz
            have j1 : (0 : Int) ≤ (n : Int) := by omega
            have j2 : (n : Int) < (len2 : Int) := by omega
            clear hzz hrc
            go_wp2_with fail
            refine (pick_nat zz m _ hfz.1 hfz.2 (by omega) (by omega)).mono ?_
            rintro e y ⟨kk, hkk, rfl, rfl⟩
            clear hcz
            have hkd : ∀ k, k ≠ kk → len2 + k < n + 1 → len2 + k < n := fun k _ h => by omega
            obtain ⟨st', r, l3, np', MC, hcp', hnk, hmono⟩ := copy_some (P := P) (b := b) hcp hobs1 hoff hl1 hkk
            obtain ⟨gw, rfl, hgc, hgb, hgl, hgr⟩ := Hw.out (by omega)
            have c6 := (hc.cell (p := ⟨gw, kk, none⟩) hgl (by show ¬ gw = b; omega)).trans (hgr kk hkk)
            obtain ⟨u, hu⟩ : ∃ u, 1 + off os kk = u := ⟨_, rfl⟩
            rw [hu] at c6 MC
            have c8 : wr.cell? ⟨ab, 0, none⟩ = some (.pointer (some ⟨P, 0, none⟩)) := k8.cell 0
            obtain ⟨⟨c0, c1, c2⟩, f0, f1, f2⟩ := blk3 k15
            have hal := hA.lt
            have k15l := k15.lt
            have k8l := k8.lt
            have ngb : ¬ gw = b := by omega
            have ng15 : ¬ gw = q15 := by omega
            have lgw : gw < wr.heap.size := by omega
            have j3 : (0 : Int) ≤ (kk : Int) := by omega
            have j4 : (kk : Int) < (m : Int) := by omega
            have t2 : decide ((kk : Int) < 0) = false := decide_eq_false (by omega)
            clear hgr hu
            go_upto_region 17 with fail
            go_cut [19, 20, 21] from 68 to 112 (fun s19 s20 s21 wx => ∃ g19 : Nat, s19 = .pointer (some ⟨g19, 0, none⟩) ∧ s20 = .int .i64 r ∧ s21 = .int .i64 0 ∧ wr.heap.size ≤ g19 ∧ BlkIs wx g19 #[.int .i64 200, .int .i64 200, .int .i64 st'] 41 ∧ ArenaAt 65 wx P b l3 ∧ Chg (· = b) wr wx)
            case first =>
              refine wp_region_noPanic ?_
              refine wp_region_held_drew (S := fun y => (y.cell? ⟨ab, 0, none⟩ = some (.pointer (some ⟨P, 0, none⟩)) ∧ y.cell? ⟨gw, kk, none⟩ = some (.int .i64 u) ∧ y.cell? ⟨q15, 0, none⟩ = some (.int .i64 200) ∧ y.cell? ⟨q15, 1, none⟩ = some (.int .i64 200) ∧ y.cell? ⟨q15, 2, none⟩ = some (.int .i64 st)) ∧ wr.heap.size ≤ y.heap.size) (by kernel_rfl) ⟨⟨c8, c6, c0, c1, c2⟩, Nat.le_refl _⟩ (fun hS => ?_)
              have HS := fun (y : World) (hy : Chg (· = b) wr y) => (show (y.cell? ⟨ab, 0, none⟩ = some (.pointer (some ⟨P, 0, none⟩)) ∧ y.cell? ⟨gw, kk, none⟩ = some (.int .i64 u) ∧ y.cell? ⟨q15, 0, none⟩ = some (.int .i64 200) ∧ y.cell? ⟨q15, 1, none⟩ = some (.int .i64 200) ∧ y.cell? ⟨q15, 2, none⟩ = some (.int .i64 st)) ∧ wr.heap.size ≤ y.heap.size from
                ⟨⟨(hy.cell (p := ⟨ab, 0, none⟩) k8l nab).trans c8, (hy.cell (p := ⟨gw, kk, none⟩) lgw ngb).trans c6, (hy.cell (p := ⟨q15, 0, none⟩) k15l n15.1).trans c0, (hy.cell (p := ⟨q15, 1, none⟩) k15l n15.1).trans c1, (hy.cell (p := ⟨q15, 2, none⟩) k15l n15.1).trans c2⟩, hy.size⟩)
              clear c6 c8 c0 c1 c2 f0 f1 f2
              first
              | (refine wpAnyH_take (i := 0) (v := ?_) rfl (by kernel_rfl) (by kernel_rfl) (by kernel_rfl) (fun _ _ _ h => h) (Or.inl ⟨by rfl, ?_⟩) hS ?_; rotate_left; (· (intro y hy; (try dsimp only at hy); go_simp; try with_reducible rfl)); try simp only [Act.put, List.setIfInBounds_toArray, List.set_cons_zero, List.set_cons_succ, List.getElem_toArray, List.getElem_cons_zero, List.getElem_cons_succ])
              | (refine wpAnyH_take (i := 0) (v := undef) rfl (by kernel_rfl) (by kernel_rfl) (by kernel_rfl) (fun _ _ _ h => h) (Or.inr ⟨by rfl, rfl⟩) hS ?_; try simp only [Act.put, List.setIfInBounds_toArray, List.set_cons_zero, List.set_cons_succ, List.getElem_toArray, List.getElem_cons_zero, List.getElem_cons_succ])
              first
              | (refine wpAnyH_take (i := 1) (v := ?_) rfl (by kernel_rfl) (by kernel_rfl) (by kernel_rfl) (fun _ _ _ h => h) (Or.inl ⟨by rfl, ?_⟩) hS ?_; rotate_left; (· (intro y hy; (try dsimp only at hy); go_simp; try with_reducible rfl)); try simp only [Act.put, List.setIfInBounds_toArray, List.set_cons_zero, List.set_cons_succ, List.getElem_toArray, List.getElem_cons_zero, List.getElem_cons_succ])
              | (refine wpAnyH_take (i := 1) (v := undef) rfl (by kernel_rfl) (by kernel_rfl) (by kernel_rfl) (fun _ _ _ h => h) (Or.inr ⟨by rfl, rfl⟩) hS ?_; try simp only [Act.put, List.setIfInBounds_toArray, List.set_cons_zero, List.set_cons_succ, List.getElem_toArray, List.getElem_cons_zero, List.getElem_cons_succ])
              first
              | (refine wpAnyH_take (i := 2) (v := ?_) rfl (by kernel_rfl) (by kernel_rfl) (by kernel_rfl) (fun _ _ _ h => h) (Or.inl ⟨by rfl, ?_⟩) hS ?_; rotate_left; (· (intro y hy; (try dsimp only at hy); go_simp; try with_reducible rfl)); try simp only [Act.put, List.setIfInBounds_toArray, List.set_cons_zero, List.set_cons_succ, List.getElem_toArray, List.getElem_cons_zero, List.getElem_cons_succ])
              | (refine wpAnyH_take (i := 2) (v := undef) rfl (by kernel_rfl) (by kernel_rfl) (by kernel_rfl) (fun _ _ _ h => h) (Or.inr ⟨by rfl, rfl⟩) hS ?_; try simp only [Act.put, List.setIfInBounds_toArray, List.set_cons_zero, List.set_cons_succ, List.getElem_toArray, List.getElem_cons_zero, List.getElem_cons_succ])
              first
              | (refine wpAnyH_take (i := 3) (v := ?_) rfl (by kernel_rfl) (by kernel_rfl) (by kernel_rfl) (fun _ _ _ h => h) (Or.inl ⟨by rfl, ?_⟩) hS ?_; rotate_left; (· (intro y hy; (try dsimp only at hy); go_simp; try with_reducible rfl)); try simp only [Act.put, List.setIfInBounds_toArray, List.set_cons_zero, List.set_cons_succ, List.getElem_toArray, List.getElem_cons_zero, List.getElem_cons_succ])
              | (refine wpAnyH_take (i := 3) (v := undef) rfl (by kernel_rfl) (by kernel_rfl) (by kernel_rfl) (fun _ _ _ h => h) (Or.inr ⟨by rfl, rfl⟩) hS ?_; try simp only [Act.put, List.setIfInBounds_toArray, List.set_cons_zero, List.set_cons_succ, List.getElem_toArray, List.getElem_cons_zero, List.getElem_cons_succ])
              first
              | (refine wpAnyH_take (i := 4) (v := ?_) rfl (by kernel_rfl) (by kernel_rfl) (by kernel_rfl) (fun _ _ _ h => h) (Or.inl ⟨by rfl, ?_⟩) hS ?_; rotate_left; (· (intro y hy; (try dsimp only at hy); go_simp; try with_reducible rfl)); try simp only [Act.put, List.setIfInBounds_toArray, List.set_cons_zero, List.set_cons_succ, List.getElem_toArray, List.getElem_cons_zero, List.getElem_cons_succ])
              | (refine wpAnyH_take (i := 4) (v := undef) rfl (by kernel_rfl) (by kernel_rfl) (by kernel_rfl) (fun _ _ _ h => h) (Or.inr ⟨by rfl, rfl⟩) hS ?_; try simp only [Act.put, List.setIfInBounds_toArray, List.set_cons_zero, List.set_cons_succ, List.getElem_toArray, List.getElem_cons_zero, List.getElem_cons_succ])
              first
              | (refine wpAnyH_take (i := 5) (v := ?_) rfl (by kernel_rfl) (by kernel_rfl) (by kernel_rfl) (fun _ _ _ h => h) (Or.inl ⟨by rfl, ?_⟩) hS ?_; rotate_left; (· (intro y hy; (try dsimp only at hy); go_simp; try with_reducible rfl)); try simp only [Act.put, List.setIfInBounds_toArray, List.set_cons_zero, List.set_cons_succ, List.getElem_toArray, List.getElem_cons_zero, List.getElem_cons_succ])
              | (refine wpAnyH_take (i := 5) (v := undef) rfl (by kernel_rfl) (by kernel_rfl) (by kernel_rfl) (fun _ _ _ h => h) (Or.inr ⟨by rfl, rfl⟩) hS ?_; try simp only [Act.put, List.setIfInBounds_toArray, List.set_cons_zero, List.set_cons_succ, List.getElem_toArray, List.getElem_cons_zero, List.getElem_cons_succ])
              refine wpAnyH_ready (rs := [6, 11]) (by kernel_rfl) (by simp) ?_
              refine AllReadyH.cons (o := _) rfl (fun K hK => ?_) (AllReadyH.cons (o := _) rfl (fun K hK => ?_) AllReadyH.nil)
              · go_simp
                refine (MC _ hA.drew).mono ?_
                rintro e y2 ⟨rfl, hA4, hc2⟩
                replace hc2 : Chg (· = b) wr y2 := (Chg.refl (· = b) wr).drew.trans hc2
                refine hK.out _ _ (HS _ hc2) (fun hS => ?_)
                clear hK K
                try simp only [Act.put, List.setIfInBounds_toArray, List.set_cons_zero, List.set_cons_succ]
                first
                | (refine wpAnyH_take (i := 7) (v := ?_) rfl (by kernel_rfl) (by kernel_rfl) (by kernel_rfl) (fun _ _ _ h => h) (Or.inl ⟨by rfl, ?_⟩) hS ?_; rotate_left; (· (intro y hy; (try dsimp only at hy); go_simp; try with_reducible rfl)); try simp only [Act.put, List.setIfInBounds_toArray, List.set_cons_zero, List.set_cons_succ, List.getElem_toArray, List.getElem_cons_zero, List.getElem_cons_succ])
                | (refine wpAnyH_take (i := 7) (v := undef) rfl (by kernel_rfl) (by kernel_rfl) (by kernel_rfl) (fun _ _ _ h => h) (Or.inr ⟨by rfl, rfl⟩) hS ?_; try simp only [Act.put, List.setIfInBounds_toArray, List.set_cons_zero, List.set_cons_succ, List.getElem_toArray, List.getElem_cons_zero, List.getElem_cons_succ])
                first
                | (refine wpAnyH_take (i := 8) (v := ?_) rfl (by kernel_rfl) (by kernel_rfl) (by kernel_rfl) (fun _ _ _ h => h) (Or.inl ⟨by rfl, ?_⟩) hS ?_; rotate_left; (· (intro y hy; (try dsimp only at hy); go_simp; try with_reducible rfl)); try simp only [Act.put, List.setIfInBounds_toArray, List.set_cons_zero, List.set_cons_succ, List.getElem_toArray, List.getElem_cons_zero, List.getElem_cons_succ])
                | (refine wpAnyH_take (i := 8) (v := undef) rfl (by kernel_rfl) (by kernel_rfl) (by kernel_rfl) (fun _ _ _ h => h) (Or.inr ⟨by rfl, rfl⟩) hS ?_; try simp only [Act.put, List.setIfInBounds_toArray, List.set_cons_zero, List.set_cons_succ, List.getElem_toArray, List.getElem_cons_zero, List.getElem_cons_succ])
                first
                | (refine wpAnyH_take (i := 9) (v := ?_) rfl (by kernel_rfl) (by kernel_rfl) (by kernel_rfl) (fun _ _ _ h => h) (Or.inl ⟨by rfl, ?_⟩) hS ?_; rotate_left; (· (intro y hy; (try dsimp only at hy); go_simp; try with_reducible rfl)); try simp only [Act.put, List.setIfInBounds_toArray, List.set_cons_zero, List.set_cons_succ, List.getElem_toArray, List.getElem_cons_zero, List.getElem_cons_succ])
                | (refine wpAnyH_take (i := 9) (v := undef) rfl (by kernel_rfl) (by kernel_rfl) (by kernel_rfl) (fun _ _ _ h => h) (Or.inr ⟨by rfl, rfl⟩) hS ?_; try simp only [Act.put, List.setIfInBounds_toArray, List.set_cons_zero, List.set_cons_succ, List.getElem_toArray, List.getElem_cons_zero, List.getElem_cons_succ])
                first
                | (refine wpAnyH_take (i := 10) (v := ?_) rfl (by kernel_rfl) (by kernel_rfl) (by kernel_rfl) (fun _ _ _ h => h) (Or.inl ⟨by rfl, ?_⟩) hS ?_; rotate_left; (· (intro y hy; (try dsimp only at hy); go_simp; try with_reducible rfl)); try simp only [Act.put, List.setIfInBounds_toArray, List.set_cons_zero, List.set_cons_succ, List.getElem_toArray, List.getElem_cons_zero, List.getElem_cons_succ])
                | (refine wpAnyH_take (i := 10) (v := undef) rfl (by kernel_rfl) (by kernel_rfl) (by kernel_rfl) (fun _ _ _ h => h) (Or.inr ⟨by rfl, rfl⟩) hS ?_; try simp only [Act.put, List.setIfInBounds_toArray, List.set_cons_zero, List.set_cons_succ, List.getElem_toArray, List.getElem_cons_zero, List.getElem_cons_succ])
                have hbv := (Below.refl y2.heap.size y2).alloc (Nat.le_refl _) (.cells #[.int .i64 200, .int .i64 200, .int .i64 st'] 41)
                refine wpAnyH_ready (rs := [11]) (by kernel_rfl) (by simp) ?_
                refine AllReadyH.cons (o := _) rfl (fun K hK => ?_) AllReadyH.nil
                go_simp
                refine hK.out _ _ (HS _ (hc2.alloc _)) (fun hS => ?_)
                clear hK K
                try simp only [Act.put, List.setIfInBounds_toArray, List.set_cons_zero, List.set_cons_succ]
                refine wpAnyH_ready (rs := [12]) (by kernel_rfl) (by simp) ?_
                refine AllReadyH.cons (o := _) rfl (fun K hK => ?_) AllReadyH.nil
                go_simp
                refine hK.out _ _ (HS _ (hc2.alloc _)) (fun hS => ?_)
                clear hK K
                try simp only [Act.put, List.setIfInBounds_toArray, List.set_cons_zero, List.set_cons_succ]
                first
                | (refine wpAnyH_take (i := 13) (v := ?_) rfl (by kernel_rfl) (by kernel_rfl) (by kernel_rfl) (fun _ _ _ h => h) (Or.inl ⟨by rfl, ?_⟩) hS ?_; rotate_left; (· (intro y hy; (try dsimp only at hy); go_simp; try with_reducible rfl)); try simp only [Act.put, List.setIfInBounds_toArray, List.set_cons_zero, List.set_cons_succ, List.getElem_toArray, List.getElem_cons_zero, List.getElem_cons_succ])
                | (refine wpAnyH_take (i := 13) (v := undef) rfl (by kernel_rfl) (by kernel_rfl) (by kernel_rfl) (fun _ _ _ h => h) (Or.inr ⟨by rfl, rfl⟩) hS ?_; try simp only [Act.put, List.setIfInBounds_toArray, List.set_cons_zero, List.set_cons_succ, List.getElem_toArray, List.getElem_cons_zero, List.getElem_cons_succ])
                first
                | (refine wpAnyH_take (i := 14) (v := ?_) rfl (by kernel_rfl) (by kernel_rfl) (by kernel_rfl) (fun _ _ _ h => h) (Or.inl ⟨by rfl, ?_⟩) hS ?_; rotate_left; (· (intro y hy; (try dsimp only at hy); go_simp; try with_reducible rfl)); try simp only [Act.put, List.setIfInBounds_toArray, List.set_cons_zero, List.set_cons_succ, List.getElem_toArray, List.getElem_cons_zero, List.getElem_cons_succ])
                | (refine wpAnyH_take (i := 14) (v := undef) rfl (by kernel_rfl) (by kernel_rfl) (by kernel_rfl) (fun _ _ _ h => h) (Or.inr ⟨by rfl, rfl⟩) hS ?_; try simp only [Act.put, List.setIfInBounds_toArray, List.set_cons_zero, List.set_cons_succ, List.getElem_toArray, List.getElem_cons_zero, List.getElem_cons_succ])
                refine wpAnyH_done (by kernel_rfl) ?_ _
                refine NoPanic.normal ?_
                go_wp2_with fail
                go_meet
                exact ⟨_, rfl, rfl, rfl, hc2.size, BlkIs.new y2 _ _, hA4.below hbv hA4.lt.1 hA4.lt.2, hc2.alloc _⟩
              · go_simp
                have hbz := (Below.refl wr.heap.size wr).drew.alloc (Nat.le_refl _) (.cells #[.int .i64 0, .int .i64 0, .int .i64 0] 41)
                have kz : BlkIs (wr.drew.alloc (.cells #[.int .i64 0, .int .i64 0, .int .i64 0] 41)) wr.heap.size _ _ := BlkIs.new wr.drew #[.int .i64 0, .int .i64 0, .int .i64 0] 41
                have hAz := hA.below hbz hal.1 hal.2
                refine hK.out _ _ (HS _ (Chg.of_below hbz (Nat.le_refl _))) (fun hS => ?_)
                clear hK K
                try simp only [Act.put, List.setIfInBounds_toArray, List.set_cons_zero, List.set_cons_succ]
                refine wpAnyH_ready (rs := [6]) (by kernel_rfl) (by simp) ?_
                refine AllReadyH.cons (o := _) rfl (fun K hK => ?_) AllReadyH.nil
                go_simp
                refine (MC _ hAz).mono ?_
                rintro e y2 ⟨rfl, hA4, hc2⟩
                have nbz : ¬ wr.heap.size = b := by omega
                replace kz := kz.chg hc2 nbz
                replace hc2 : Chg (· = b) wr y2 := (Chg.of_below hbz (Nat.le_refl _)).trans hc2
                refine hK.out _ _ (HS _ hc2) (fun hS => ?_)
                clear hK K
                try simp only [Act.put, List.setIfInBounds_toArray, List.set_cons_zero, List.set_cons_succ]
                first
                | (refine wpAnyH_take (i := 7) (v := ?_) rfl (by kernel_rfl) (by kernel_rfl) (by kernel_rfl) (fun _ _ _ h => h) (Or.inl ⟨by rfl, ?_⟩) hS ?_; rotate_left; (· (intro y hy; (try dsimp only at hy); go_simp; try with_reducible rfl)); try simp only [Act.put, List.setIfInBounds_toArray, List.set_cons_zero, List.set_cons_succ, List.getElem_toArray, List.getElem_cons_zero, List.getElem_cons_succ])
                | (refine wpAnyH_take (i := 7) (v := undef) rfl (by kernel_rfl) (by kernel_rfl) (by kernel_rfl) (fun _ _ _ h => h) (Or.inr ⟨by rfl, rfl⟩) hS ?_; try simp only [Act.put, List.setIfInBounds_toArray, List.set_cons_zero, List.set_cons_succ, List.getElem_toArray, List.getElem_cons_zero, List.getElem_cons_succ])
                first
                | (refine wpAnyH_take (i := 8) (v := ?_) rfl (by kernel_rfl) (by kernel_rfl) (by kernel_rfl) (fun _ _ _ h => h) (Or.inl ⟨by rfl, ?_⟩) hS ?_; rotate_left; (· (intro y hy; (try dsimp only at hy); go_simp; try with_reducible rfl)); try simp only [Act.put, List.setIfInBounds_toArray, List.set_cons_zero, List.set_cons_succ, List.getElem_toArray, List.getElem_cons_zero, List.getElem_cons_succ])
                | (refine wpAnyH_take (i := 8) (v := undef) rfl (by kernel_rfl) (by kernel_rfl) (by kernel_rfl) (fun _ _ _ h => h) (Or.inr ⟨by rfl, rfl⟩) hS ?_; try simp only [Act.put, List.setIfInBounds_toArray, List.set_cons_zero, List.set_cons_succ, List.getElem_toArray, List.getElem_cons_zero, List.getElem_cons_succ])
                first
                | (refine wpAnyH_take (i := 9) (v := ?_) rfl (by kernel_rfl) (by kernel_rfl) (by kernel_rfl) (fun _ _ _ h => h) (Or.inl ⟨by rfl, ?_⟩) hS ?_; rotate_left; (· (intro y hy; (try dsimp only at hy); go_simp; try with_reducible rfl)); try simp only [Act.put, List.setIfInBounds_toArray, List.set_cons_zero, List.set_cons_succ, List.getElem_toArray, List.getElem_cons_zero, List.getElem_cons_succ])
                | (refine wpAnyH_take (i := 9) (v := undef) rfl (by kernel_rfl) (by kernel_rfl) (by kernel_rfl) (fun _ _ _ h => h) (Or.inr ⟨by rfl, rfl⟩) hS ?_; try simp only [Act.put, List.setIfInBounds_toArray, List.set_cons_zero, List.set_cons_succ, List.getElem_toArray, List.getElem_cons_zero, List.getElem_cons_succ])
                first
                | (refine wpAnyH_take (i := 10) (v := ?_) rfl (by kernel_rfl) (by kernel_rfl) (by kernel_rfl) (fun _ _ _ h => h) (Or.inl ⟨by rfl, ?_⟩) hS ?_; rotate_left; (· (intro y hy; (try dsimp only at hy); go_simp; try with_reducible rfl)); try simp only [Act.put, List.setIfInBounds_toArray, List.set_cons_zero, List.set_cons_succ, List.getElem_toArray, List.getElem_cons_zero, List.getElem_cons_succ])
                | (refine wpAnyH_take (i := 10) (v := undef) rfl (by kernel_rfl) (by kernel_rfl) (by kernel_rfl) (fun _ _ _ h => h) (Or.inr ⟨by rfl, rfl⟩) hS ?_; try simp only [Act.put, List.setIfInBounds_toArray, List.set_cons_zero, List.set_cons_succ, List.getElem_toArray, List.getElem_cons_zero, List.getElem_cons_succ])
                obtain ⟨⟨d0, d1, d2⟩, e0, e1, e2⟩ := blk3 kz
                have hbs := (((Below.refl wr.heap.size y2).setCell (p := ⟨wr.heap.size, 0, none⟩) (Nat.le_refl _) (.int .i64 200)).setCell (p := ⟨wr.heap.size, 1, none⟩) (Nat.le_refl _) (.int .i64 200)).setCell (p := ⟨wr.heap.size, 2, none⟩) (Nat.le_refl _) (.int .i64 st')
                have hcs3 := ((hc2.setCell (p := ⟨wr.heap.size, 0, none⟩) (.inr (Nat.le_refl _)) (.int .i64 200)).setCell (p := ⟨wr.heap.size, 1, none⟩) (.inr (Nat.le_refl _)) (.int .i64 200)).setCell (p := ⟨wr.heap.size, 2, none⟩) (.inr (Nat.le_refl _)) (.int .i64 st')
                refine wpAnyH_ready (rs := [12]) (by kernel_rfl) (by simp) ?_
                refine AllReadyH.cons (o := _) rfl (fun K hK => ?_) AllReadyH.nil
                go_simp
                refine hK.out _ _ (HS _ hcs3) (fun hS => ?_)
                clear hK K
                try simp only [Act.put, List.setIfInBounds_toArray, List.set_cons_zero, List.set_cons_succ]
                first
                | (refine wpAnyH_take (i := 13) (v := ?_) rfl (by kernel_rfl) (by kernel_rfl) (by kernel_rfl) (fun _ _ _ h => h) (Or.inl ⟨by rfl, ?_⟩) hS ?_; rotate_left; (· (intro y hy; (try dsimp only at hy); go_simp; try with_reducible rfl)); try simp only [Act.put, List.setIfInBounds_toArray, List.set_cons_zero, List.set_cons_succ, List.getElem_toArray, List.getElem_cons_zero, List.getElem_cons_succ])
                | (refine wpAnyH_take (i := 13) (v := undef) rfl (by kernel_rfl) (by kernel_rfl) (by kernel_rfl) (fun _ _ _ h => h) (Or.inr ⟨by rfl, rfl⟩) hS ?_; try simp only [Act.put, List.setIfInBounds_toArray, List.set_cons_zero, List.set_cons_succ, List.getElem_toArray, List.getElem_cons_zero, List.getElem_cons_succ])
                first
                | (refine wpAnyH_take (i := 14) (v := ?_) rfl (by kernel_rfl) (by kernel_rfl) (by kernel_rfl) (fun _ _ _ h => h) (Or.inl ⟨by rfl, ?_⟩) hS ?_; rotate_left; (· (intro y hy; (try dsimp only at hy); go_simp; try with_reducible rfl)); try simp only [Act.put, List.setIfInBounds_toArray, List.set_cons_zero, List.set_cons_succ, List.getElem_toArray, List.getElem_cons_zero, List.getElem_cons_succ])
                | (refine wpAnyH_take (i := 14) (v := undef) rfl (by kernel_rfl) (by kernel_rfl) (by kernel_rfl) (fun _ _ _ h => h) (Or.inr ⟨by rfl, rfl⟩) hS ?_; try simp only [Act.put, List.setIfInBounds_toArray, List.set_cons_zero, List.set_cons_succ, List.getElem_toArray, List.getElem_cons_zero, List.getElem_cons_succ])
                refine wpAnyH_done (by kernel_rfl) ?_ _
                refine NoPanic.normal ?_
                go_wp2_with fail
                go_meet
                exact ⟨_, rfl, rfl, rfl, Nat.le_refl _, ((kz.set 0 (.int .i64 200)).set 1 (.int .i64 200)).set 2 (.int .i64 st'), hA4.below hbs hal.1 hal.2, hcs3⟩
            case rest =>
              obtain ⟨g19, rfl, rfl, rfl, hg19, k19, hA4, hc4⟩ := hcut
              have k8' := k8.chg hc4 nab
              have k15' := k15.chg hc4 n15.1
              obtain ⟨⟨d0, d1, d2⟩, -⟩ := blk3 k19
              clear c0 c1 c2 f0 f1 f2 c6 c8
              obtain ⟨⟨c0, c1, c2⟩, f0, f1, f2⟩ := blk3 k15'
              have hcs3 := (((hc.trans hc4).setCell (p := ⟨q15, 0, none⟩) (.inr hx6) (.int .i64 200)).setCell (p := ⟨q15, 1, none⟩) (.inr hx6) (.int .i64 200)).setCell (p := ⟨q15, 2, none⟩) (.inr hx6) (.int .i64 st')
              have h15 := ((k15'.set 0 (.int .i64 200)).set 1 (.int .i64 200)).set 2 (.int .i64 st')
              have hc15 := (((Chg.refl (· = q15) wc).setCell (p := ⟨q15, 0, none⟩) (.inl rfl) (.int .i64 200)).setCell (p := ⟨q15, 1, none⟩) (.inl rfl) (.int .i64 200)).setCell (p := ⟨q15, 2, none⟩) (.inl rfl) (.int .i64 st')
              have hA9 := hA4.chg hc15 (show ¬ P = q15 by omega) (show ¬ b = q15 by omega)
              have k89 := k8'.chg hc15 (show ¬ ab = q15 by omega)
              go_wp2
              go_roundw
              case rel => exact ⟨n + 1, l3, np', st', by omega, by go_num, hA9, hcp', fun k hk h => by
                by_cases e : k = kk
                · rw [e]; exact hnk
                · exact hmono k (hdone k hk (hkd k e h)), k89, h15, hcs3⟩
              case measure => simp [intOf]; omega
        -- A]
      -- [C
      · obtain ⟨kk, hke⟩ : ∃ kk, n = len2 + kk := ⟨n - len2, by omega⟩
        have hkk : kk < m := by omega
        have i1 : IntKind.i64.wrap ((n : Int) - (len2 : Int)) = (kk : Int) := by rw [IntWalk.i64_in _ (by omega)]; omega
        have t3 : decide ((n : Int) < (len2 : Int)) = false := decide_eq_false (by omega)
        have t3' : decide (n < len2) = false := decide_eq_false hno
        have hkd : ∀ k, k ≠ kk → len2 + k < n + 1 → len2 + k < n := fun k h1 h2 => by omega
        have Hke := Lib.hid hke
        clear hke
        obtain ⟨st', r, l3, np', MC, hcp', hnk, hmono⟩ := copy_some (P := P) (b := b) hcp hobs1 hoff hl1 hkk
        obtain ⟨gw, rfl, hgc, hgb, hgl, hgr⟩ := Hw.out (by omega)
        have c6 := (hc.cell (p := ⟨gw, kk, none⟩) hgl (by show ¬ gw = b; omega)).trans (hgr kk hkk)
        obtain ⟨u, hu⟩ : ∃ u, 1 + off os kk = u := ⟨_, rfl⟩
        rw [hu] at c6 MC
        have c8 : wr.cell? ⟨ab, 0, none⟩ = some (.pointer (some ⟨P, 0, none⟩)) := k8.cell 0
        obtain ⟨⟨c0, c1, c2⟩, f0, f1, f2⟩ := blk3 k15
        have hal := hA.lt
        have k15l := k15.lt
        have k8l := k8.lt
        have ngb : ¬ gw = b := by omega
        have ng15 : ¬ gw = q15 := by omega
        have lgw : gw < wr.heap.size := by omega
        have j3 : (0 : Int) ≤ (kk : Int) := by omega
        have j4 : (kk : Int) < (m : Int) := by omega
        have t2 : decide ((kk : Int) < 0) = false := decide_eq_false (by omega)
        clear hgr hu
        go_upto_region 17 with fail
        go_cut [19, 20, 21] from 68 to 112 (fun s19 s20 s21 wx => ∃ g19 : Nat, s19 = .pointer (some ⟨g19, 0, none⟩) ∧ s20 = .int .i64 r ∧ s21 = .int .i64 0 ∧ wr.heap.size ≤ g19 ∧ BlkIs wx g19 #[.int .i64 200, .int .i64 200, .int .i64 st'] 41 ∧ ArenaAt 65 wx P b l3 ∧ Chg (· = b) wr wx)
        case first =>
          refine wp_region_noPanic ?_
          refine wp_region_held_drew (S := fun y => (y.cell? ⟨ab, 0, none⟩ = some (.pointer (some ⟨P, 0, none⟩)) ∧ y.cell? ⟨gw, kk, none⟩ = some (.int .i64 u) ∧ y.cell? ⟨q15, 0, none⟩ = some (.int .i64 200) ∧ y.cell? ⟨q15, 1, none⟩ = some (.int .i64 200) ∧ y.cell? ⟨q15, 2, none⟩ = some (.int .i64 st)) ∧ wr.heap.size ≤ y.heap.size) (by kernel_rfl) ⟨⟨c8, c6, c0, c1, c2⟩, Nat.le_refl _⟩ (fun hS => ?_)
          have HS := fun (y : World) (hy : Chg (· = b) wr y) => (show (y.cell? ⟨ab, 0, none⟩ = some (.pointer (some ⟨P, 0, none⟩)) ∧ y.cell? ⟨gw, kk, none⟩ = some (.int .i64 u) ∧ y.cell? ⟨q15, 0, none⟩ = some (.int .i64 200) ∧ y.cell? ⟨q15, 1, none⟩ = some (.int .i64 200) ∧ y.cell? ⟨q15, 2, none⟩ = some (.int .i64 st)) ∧ wr.heap.size ≤ y.heap.size from
            ⟨⟨(hy.cell (p := ⟨ab, 0, none⟩) k8l nab).trans c8, (hy.cell (p := ⟨gw, kk, none⟩) lgw ngb).trans c6, (hy.cell (p := ⟨q15, 0, none⟩) k15l n15.1).trans c0, (hy.cell (p := ⟨q15, 1, none⟩) k15l n15.1).trans c1, (hy.cell (p := ⟨q15, 2, none⟩) k15l n15.1).trans c2⟩, hy.size⟩)
          clear c6 c8 c0 c1 c2 f0 f1 f2
          first
          | (refine wpAnyH_take (i := 0) (v := ?_) rfl (by kernel_rfl) (by kernel_rfl) (by kernel_rfl) (fun _ _ _ h => h) (Or.inl ⟨by rfl, ?_⟩) hS ?_; rotate_left; (· (intro y hy; (try dsimp only at hy); go_simp; try with_reducible rfl)); try simp only [Act.put, List.setIfInBounds_toArray, List.set_cons_zero, List.set_cons_succ, List.getElem_toArray, List.getElem_cons_zero, List.getElem_cons_succ])
          | (refine wpAnyH_take (i := 0) (v := undef) rfl (by kernel_rfl) (by kernel_rfl) (by kernel_rfl) (fun _ _ _ h => h) (Or.inr ⟨by rfl, rfl⟩) hS ?_; try simp only [Act.put, List.setIfInBounds_toArray, List.set_cons_zero, List.set_cons_succ, List.getElem_toArray, List.getElem_cons_zero, List.getElem_cons_succ])
          first
          | (refine wpAnyH_take (i := 1) (v := ?_) rfl (by kernel_rfl) (by kernel_rfl) (by kernel_rfl) (fun _ _ _ h => h) (Or.inl ⟨by rfl, ?_⟩) hS ?_; rotate_left; (· (intro y hy; (try dsimp only at hy); go_simp; try with_reducible rfl)); try simp only [Act.put, List.setIfInBounds_toArray, List.set_cons_zero, List.set_cons_succ, List.getElem_toArray, List.getElem_cons_zero, List.getElem_cons_succ])
          | (refine wpAnyH_take (i := 1) (v := undef) rfl (by kernel_rfl) (by kernel_rfl) (by kernel_rfl) (fun _ _ _ h => h) (Or.inr ⟨by rfl, rfl⟩) hS ?_; try simp only [Act.put, List.setIfInBounds_toArray, List.set_cons_zero, List.set_cons_succ, List.getElem_toArray, List.getElem_cons_zero, List.getElem_cons_succ])
          first
          | (refine wpAnyH_take (i := 2) (v := ?_) rfl (by kernel_rfl) (by kernel_rfl) (by kernel_rfl) (fun _ _ _ h => h) (Or.inl ⟨by rfl, ?_⟩) hS ?_; rotate_left; (· (intro y hy; (try dsimp only at hy); go_simp; try with_reducible rfl)); try simp only [Act.put, List.setIfInBounds_toArray, List.set_cons_zero, List.set_cons_succ, List.getElem_toArray, List.getElem_cons_zero, List.getElem_cons_succ])
          | (refine wpAnyH_take (i := 2) (v := undef) rfl (by kernel_rfl) (by kernel_rfl) (by kernel_rfl) (fun _ _ _ h => h) (Or.inr ⟨by rfl, rfl⟩) hS ?_; try simp only [Act.put, List.setIfInBounds_toArray, List.set_cons_zero, List.set_cons_succ, List.getElem_toArray, List.getElem_cons_zero, List.getElem_cons_succ])
          first
          | (refine wpAnyH_take (i := 3) (v := ?_) rfl (by kernel_rfl) (by kernel_rfl) (by kernel_rfl) (fun _ _ _ h => h) (Or.inl ⟨by rfl, ?_⟩) hS ?_; rotate_left; (· (intro y hy; (try dsimp only at hy); go_simp; try with_reducible rfl)); try simp only [Act.put, List.setIfInBounds_toArray, List.set_cons_zero, List.set_cons_succ, List.getElem_toArray, List.getElem_cons_zero, List.getElem_cons_succ])
          | (refine wpAnyH_take (i := 3) (v := undef) rfl (by kernel_rfl) (by kernel_rfl) (by kernel_rfl) (fun _ _ _ h => h) (Or.inr ⟨by rfl, rfl⟩) hS ?_; try simp only [Act.put, List.setIfInBounds_toArray, List.set_cons_zero, List.set_cons_succ, List.getElem_toArray, List.getElem_cons_zero, List.getElem_cons_succ])
          first
          | (refine wpAnyH_take (i := 4) (v := ?_) rfl (by kernel_rfl) (by kernel_rfl) (by kernel_rfl) (fun _ _ _ h => h) (Or.inl ⟨by rfl, ?_⟩) hS ?_; rotate_left; (· (intro y hy; (try dsimp only at hy); go_simp; try with_reducible rfl)); try simp only [Act.put, List.setIfInBounds_toArray, List.set_cons_zero, List.set_cons_succ, List.getElem_toArray, List.getElem_cons_zero, List.getElem_cons_succ])
          | (refine wpAnyH_take (i := 4) (v := undef) rfl (by kernel_rfl) (by kernel_rfl) (by kernel_rfl) (fun _ _ _ h => h) (Or.inr ⟨by rfl, rfl⟩) hS ?_; try simp only [Act.put, List.setIfInBounds_toArray, List.set_cons_zero, List.set_cons_succ, List.getElem_toArray, List.getElem_cons_zero, List.getElem_cons_succ])
          first
          | (refine wpAnyH_take (i := 5) (v := ?_) rfl (by kernel_rfl) (by kernel_rfl) (by kernel_rfl) (fun _ _ _ h => h) (Or.inl ⟨by rfl, ?_⟩) hS ?_; rotate_left; (· (intro y hy; (try dsimp only at hy); go_simp; try with_reducible rfl)); try simp only [Act.put, List.setIfInBounds_toArray, List.set_cons_zero, List.set_cons_succ, List.getElem_toArray, List.getElem_cons_zero, List.getElem_cons_succ])
          | (refine wpAnyH_take (i := 5) (v := undef) rfl (by kernel_rfl) (by kernel_rfl) (by kernel_rfl) (fun _ _ _ h => h) (Or.inr ⟨by rfl, rfl⟩) hS ?_; try simp only [Act.put, List.setIfInBounds_toArray, List.set_cons_zero, List.set_cons_succ, List.getElem_toArray, List.getElem_cons_zero, List.getElem_cons_succ])
          refine wpAnyH_ready (rs := [6, 11]) (by kernel_rfl) (by simp) ?_
          refine AllReadyH.cons (o := _) rfl (fun K hK => ?_) (AllReadyH.cons (o := _) rfl (fun K hK => ?_) AllReadyH.nil)
          · go_simp
            refine (MC _ hA.drew).mono ?_
            rintro e y2 ⟨rfl, hA4, hc2⟩
            replace hc2 : Chg (· = b) wr y2 := (Chg.refl (· = b) wr).drew.trans hc2
            refine hK.out _ _ (HS _ hc2) (fun hS => ?_)
            clear hK K
            try simp only [Act.put, List.setIfInBounds_toArray, List.set_cons_zero, List.set_cons_succ]
            first
            | (refine wpAnyH_take (i := 7) (v := ?_) rfl (by kernel_rfl) (by kernel_rfl) (by kernel_rfl) (fun _ _ _ h => h) (Or.inl ⟨by rfl, ?_⟩) hS ?_; rotate_left; (· (intro y hy; (try dsimp only at hy); go_simp; try with_reducible rfl)); try simp only [Act.put, List.setIfInBounds_toArray, List.set_cons_zero, List.set_cons_succ, List.getElem_toArray, List.getElem_cons_zero, List.getElem_cons_succ])
            | (refine wpAnyH_take (i := 7) (v := undef) rfl (by kernel_rfl) (by kernel_rfl) (by kernel_rfl) (fun _ _ _ h => h) (Or.inr ⟨by rfl, rfl⟩) hS ?_; try simp only [Act.put, List.setIfInBounds_toArray, List.set_cons_zero, List.set_cons_succ, List.getElem_toArray, List.getElem_cons_zero, List.getElem_cons_succ])
            first
            | (refine wpAnyH_take (i := 8) (v := ?_) rfl (by kernel_rfl) (by kernel_rfl) (by kernel_rfl) (fun _ _ _ h => h) (Or.inl ⟨by rfl, ?_⟩) hS ?_; rotate_left; (· (intro y hy; (try dsimp only at hy); go_simp; try with_reducible rfl)); try simp only [Act.put, List.setIfInBounds_toArray, List.set_cons_zero, List.set_cons_succ, List.getElem_toArray, List.getElem_cons_zero, List.getElem_cons_succ])
            | (refine wpAnyH_take (i := 8) (v := undef) rfl (by kernel_rfl) (by kernel_rfl) (by kernel_rfl) (fun _ _ _ h => h) (Or.inr ⟨by rfl, rfl⟩) hS ?_; try simp only [Act.put, List.setIfInBounds_toArray, List.set_cons_zero, List.set_cons_succ, List.getElem_toArray, List.getElem_cons_zero, List.getElem_cons_succ])
            first
            | (refine wpAnyH_take (i := 9) (v := ?_) rfl (by kernel_rfl) (by kernel_rfl) (by kernel_rfl) (fun _ _ _ h => h) (Or.inl ⟨by rfl, ?_⟩) hS ?_; rotate_left; (· (intro y hy; (try dsimp only at hy); go_simp; try with_reducible rfl)); try simp only [Act.put, List.setIfInBounds_toArray, List.set_cons_zero, List.set_cons_succ, List.getElem_toArray, List.getElem_cons_zero, List.getElem_cons_succ])
            | (refine wpAnyH_take (i := 9) (v := undef) rfl (by kernel_rfl) (by kernel_rfl) (by kernel_rfl) (fun _ _ _ h => h) (Or.inr ⟨by rfl, rfl⟩) hS ?_; try simp only [Act.put, List.setIfInBounds_toArray, List.set_cons_zero, List.set_cons_succ, List.getElem_toArray, List.getElem_cons_zero, List.getElem_cons_succ])
            first
            | (refine wpAnyH_take (i := 10) (v := ?_) rfl (by kernel_rfl) (by kernel_rfl) (by kernel_rfl) (fun _ _ _ h => h) (Or.inl ⟨by rfl, ?_⟩) hS ?_; rotate_left; (· (intro y hy; (try dsimp only at hy); go_simp; try with_reducible rfl)); try simp only [Act.put, List.setIfInBounds_toArray, List.set_cons_zero, List.set_cons_succ, List.getElem_toArray, List.getElem_cons_zero, List.getElem_cons_succ])
            | (refine wpAnyH_take (i := 10) (v := undef) rfl (by kernel_rfl) (by kernel_rfl) (by kernel_rfl) (fun _ _ _ h => h) (Or.inr ⟨by rfl, rfl⟩) hS ?_; try simp only [Act.put, List.setIfInBounds_toArray, List.set_cons_zero, List.set_cons_succ, List.getElem_toArray, List.getElem_cons_zero, List.getElem_cons_succ])
            have hbv := (Below.refl y2.heap.size y2).alloc (Nat.le_refl _) (.cells #[.int .i64 200, .int .i64 200, .int .i64 st'] 41)
            refine wpAnyH_ready (rs := [11]) (by kernel_rfl) (by simp) ?_
            refine AllReadyH.cons (o := _) rfl (fun K hK => ?_) AllReadyH.nil
            go_simp
            refine hK.out _ _ (HS _ (hc2.alloc _)) (fun hS => ?_)
            clear hK K
            try simp only [Act.put, List.setIfInBounds_toArray, List.set_cons_zero, List.set_cons_succ]
            refine wpAnyH_ready (rs := [12]) (by kernel_rfl) (by simp) ?_
            refine AllReadyH.cons (o := _) rfl (fun K hK => ?_) AllReadyH.nil
            go_simp
            refine hK.out _ _ (HS _ (hc2.alloc _)) (fun hS => ?_)
            clear hK K
            try simp only [Act.put, List.setIfInBounds_toArray, List.set_cons_zero, List.set_cons_succ]
            first
            | (refine wpAnyH_take (i := 13) (v := ?_) rfl (by kernel_rfl) (by kernel_rfl) (by kernel_rfl) (fun _ _ _ h => h) (Or.inl ⟨by rfl, ?_⟩) hS ?_; rotate_left; (· (intro y hy; (try dsimp only at hy); go_simp; try with_reducible rfl)); try simp only [Act.put, List.setIfInBounds_toArray, List.set_cons_zero, List.set_cons_succ, List.getElem_toArray, List.getElem_cons_zero, List.getElem_cons_succ])
            | (refine wpAnyH_take (i := 13) (v := undef) rfl (by kernel_rfl) (by kernel_rfl) (by kernel_rfl) (fun _ _ _ h => h) (Or.inr ⟨by rfl, rfl⟩) hS ?_; try simp only [Act.put, List.setIfInBounds_toArray, List.set_cons_zero, List.set_cons_succ, List.getElem_toArray, List.getElem_cons_zero, List.getElem_cons_succ])
            first
            | (refine wpAnyH_take (i := 14) (v := ?_) rfl (by kernel_rfl) (by kernel_rfl) (by kernel_rfl) (fun _ _ _ h => h) (Or.inl ⟨by rfl, ?_⟩) hS ?_; rotate_left; (· (intro y hy; (try dsimp only at hy); go_simp; try with_reducible rfl)); try simp only [Act.put, List.setIfInBounds_toArray, List.set_cons_zero, List.set_cons_succ, List.getElem_toArray, List.getElem_cons_zero, List.getElem_cons_succ])
            | (refine wpAnyH_take (i := 14) (v := undef) rfl (by kernel_rfl) (by kernel_rfl) (by kernel_rfl) (fun _ _ _ h => h) (Or.inr ⟨by rfl, rfl⟩) hS ?_; try simp only [Act.put, List.setIfInBounds_toArray, List.set_cons_zero, List.set_cons_succ, List.getElem_toArray, List.getElem_cons_zero, List.getElem_cons_succ])
            refine wpAnyH_done (by kernel_rfl) ?_ _
            refine NoPanic.normal ?_
            go_wp2_with fail
            go_meet
            exact ⟨_, rfl, rfl, rfl, hc2.size, BlkIs.new y2 _ _, hA4.below hbv hA4.lt.1 hA4.lt.2, hc2.alloc _⟩
          · go_simp
            have hbz := (Below.refl wr.heap.size wr).drew.alloc (Nat.le_refl _) (.cells #[.int .i64 0, .int .i64 0, .int .i64 0] 41)
            have kz : BlkIs (wr.drew.alloc (.cells #[.int .i64 0, .int .i64 0, .int .i64 0] 41)) wr.heap.size _ _ := BlkIs.new wr.drew #[.int .i64 0, .int .i64 0, .int .i64 0] 41
            have hAz := hA.below hbz hal.1 hal.2
            refine hK.out _ _ (HS _ (Chg.of_below hbz (Nat.le_refl _))) (fun hS => ?_)
            clear hK K
            try simp only [Act.put, List.setIfInBounds_toArray, List.set_cons_zero, List.set_cons_succ]
            refine wpAnyH_ready (rs := [6]) (by kernel_rfl) (by simp) ?_
            refine AllReadyH.cons (o := _) rfl (fun K hK => ?_) AllReadyH.nil
            go_simp
            refine (MC _ hAz).mono ?_
            rintro e y2 ⟨rfl, hA4, hc2⟩
            have nbz : ¬ wr.heap.size = b := by omega
            replace kz := kz.chg hc2 nbz
            replace hc2 : Chg (· = b) wr y2 := (Chg.of_below hbz (Nat.le_refl _)).trans hc2
            refine hK.out _ _ (HS _ hc2) (fun hS => ?_)
            clear hK K
            try simp only [Act.put, List.setIfInBounds_toArray, List.set_cons_zero, List.set_cons_succ]
            first
            | (refine wpAnyH_take (i := 7) (v := ?_) rfl (by kernel_rfl) (by kernel_rfl) (by kernel_rfl) (fun _ _ _ h => h) (Or.inl ⟨by rfl, ?_⟩) hS ?_; rotate_left; (· (intro y hy; (try dsimp only at hy); go_simp; try with_reducible rfl)); try simp only [Act.put, List.setIfInBounds_toArray, List.set_cons_zero, List.set_cons_succ, List.getElem_toArray, List.getElem_cons_zero, List.getElem_cons_succ])
            | (refine wpAnyH_take (i := 7) (v := undef) rfl (by kernel_rfl) (by kernel_rfl) (by kernel_rfl) (fun _ _ _ h => h) (Or.inr ⟨by rfl, rfl⟩) hS ?_; try simp only [Act.put, List.setIfInBounds_toArray, List.set_cons_zero, List.set_cons_succ, List.getElem_toArray, List.getElem_cons_zero, List.getElem_cons_succ])
            first
            | (refine wpAnyH_take (i := 8) (v := ?_) rfl (by kernel_rfl) (by kernel_rfl) (by kernel_rfl) (fun _ _ _ h => h) (Or.inl ⟨by rfl, ?_⟩) hS ?_; rotate_left; (· (intro y hy; (try dsimp only at hy); go_simp; try with_reducible rfl)); try simp only [Act.put, List.setIfInBounds_toArray, List.set_cons_zero, List.set_cons_succ, List.getElem_toArray, List.getElem_cons_zero, List.getElem_cons_succ])
            | (refine wpAnyH_take (i := 8) (v := undef) rfl (by kernel_rfl) (by kernel_rfl) (by kernel_rfl) (fun _ _ _ h => h) (Or.inr ⟨by rfl, rfl⟩) hS ?_; try simp only [Act.put, List.setIfInBounds_toArray, List.set_cons_zero, List.set_cons_succ, List.getElem_toArray, List.getElem_cons_zero, List.getElem_cons_succ])
            first
            | (refine wpAnyH_take (i := 9) (v := ?_) rfl (by kernel_rfl) (by kernel_rfl) (by kernel_rfl) (fun _ _ _ h => h) (Or.inl ⟨by rfl, ?_⟩) hS ?_; rotate_left; (· (intro y hy; (try dsimp only at hy); go_simp; try with_reducible rfl)); try simp only [Act.put, List.setIfInBounds_toArray, List.set_cons_zero, List.set_cons_succ, List.getElem_toArray, List.getElem_cons_zero, List.getElem_cons_succ])
            | (refine wpAnyH_take (i := 9) (v := undef) rfl (by kernel_rfl) (by kernel_rfl) (by kernel_rfl) (fun _ _ _ h => h) (Or.inr ⟨by rfl, rfl⟩) hS ?_; try simp only [Act.put, List.setIfInBounds_toArray, List.set_cons_zero, List.set_cons_succ, List.getElem_toArray, List.getElem_cons_zero, List.getElem_cons_succ])
            first
            | (refine wpAnyH_take (i := 10) (v := ?_) rfl (by kernel_rfl) (by kernel_rfl) (by kernel_rfl) (fun _ _ _ h => h) (Or.inl ⟨by rfl, ?_⟩) hS ?_; rotate_left; (· (intro y hy; (try dsimp only at hy); go_simp; try with_reducible rfl)); try simp only [Act.put, List.setIfInBounds_toArray, List.set_cons_zero, List.set_cons_succ, List.getElem_toArray, List.getElem_cons_zero, List.getElem_cons_succ])
            | (refine wpAnyH_take (i := 10) (v := undef) rfl (by kernel_rfl) (by kernel_rfl) (by kernel_rfl) (fun _ _ _ h => h) (Or.inr ⟨by rfl, rfl⟩) hS ?_; try simp only [Act.put, List.setIfInBounds_toArray, List.set_cons_zero, List.set_cons_succ, List.getElem_toArray, List.getElem_cons_zero, List.getElem_cons_succ])
            obtain ⟨⟨d0, d1, d2⟩, e0, e1, e2⟩ := blk3 kz
            have hbs := (((Below.refl wr.heap.size y2).setCell (p := ⟨wr.heap.size, 0, none⟩) (Nat.le_refl _) (.int .i64 200)).setCell (p := ⟨wr.heap.size, 1, none⟩) (Nat.le_refl _) (.int .i64 200)).setCell (p := ⟨wr.heap.size, 2, none⟩) (Nat.le_refl _) (.int .i64 st')
            have hcs3 := ((hc2.setCell (p := ⟨wr.heap.size, 0, none⟩) (.inr (Nat.le_refl _)) (.int .i64 200)).setCell (p := ⟨wr.heap.size, 1, none⟩) (.inr (Nat.le_refl _)) (.int .i64 200)).setCell (p := ⟨wr.heap.size, 2, none⟩) (.inr (Nat.le_refl _)) (.int .i64 st')
            refine wpAnyH_ready (rs := [12]) (by kernel_rfl) (by simp) ?_
            refine AllReadyH.cons (o := _) rfl (fun K hK => ?_) AllReadyH.nil
            go_simp
            refine hK.out _ _ (HS _ hcs3) (fun hS => ?_)
            clear hK K
            try simp only [Act.put, List.setIfInBounds_toArray, List.set_cons_zero, List.set_cons_succ]
            first
            | (refine wpAnyH_take (i := 13) (v := ?_) rfl (by kernel_rfl) (by kernel_rfl) (by kernel_rfl) (fun _ _ _ h => h) (Or.inl ⟨by rfl, ?_⟩) hS ?_; rotate_left; (· (intro y hy; (try dsimp only at hy); go_simp; try with_reducible rfl)); try simp only [Act.put, List.setIfInBounds_toArray, List.set_cons_zero, List.set_cons_succ, List.getElem_toArray, List.getElem_cons_zero, List.getElem_cons_succ])
            | (refine wpAnyH_take (i := 13) (v := undef) rfl (by kernel_rfl) (by kernel_rfl) (by kernel_rfl) (fun _ _ _ h => h) (Or.inr ⟨by rfl, rfl⟩) hS ?_; try simp only [Act.put, List.setIfInBounds_toArray, List.set_cons_zero, List.set_cons_succ, List.getElem_toArray, List.getElem_cons_zero, List.getElem_cons_succ])
            first
            | (refine wpAnyH_take (i := 14) (v := ?_) rfl (by kernel_rfl) (by kernel_rfl) (by kernel_rfl) (fun _ _ _ h => h) (Or.inl ⟨by rfl, ?_⟩) hS ?_; rotate_left; (· (intro y hy; (try dsimp only at hy); go_simp; try with_reducible rfl)); try simp only [Act.put, List.setIfInBounds_toArray, List.set_cons_zero, List.set_cons_succ, List.getElem_toArray, List.getElem_cons_zero, List.getElem_cons_succ])
            | (refine wpAnyH_take (i := 14) (v := undef) rfl (by kernel_rfl) (by kernel_rfl) (by kernel_rfl) (fun _ _ _ h => h) (Or.inr ⟨by rfl, rfl⟩) hS ?_; try simp only [Act.put, List.setIfInBounds_toArray, List.set_cons_zero, List.set_cons_succ, List.getElem_toArray, List.getElem_cons_zero, List.getElem_cons_succ])
            refine wpAnyH_done (by kernel_rfl) ?_ _
            refine NoPanic.normal ?_
            go_wp2_with fail
            go_meet
            exact ⟨_, rfl, rfl, rfl, Nat.le_refl _, ((kz.set 0 (.int .i64 200)).set 1 (.int .i64 200)).set 2 (.int .i64 st'), hA4.below hbs hal.1 hal.2, hcs3⟩
        case rest =>
          obtain ⟨g19, rfl, rfl, rfl, hg19, k19, hA4, hc4⟩ := hcut
          have k8' := k8.chg hc4 nab
          have k15' := k15.chg hc4 n15.1
          obtain ⟨⟨d0, d1, d2⟩, -⟩ := blk3 k19
          clear c0 c1 c2 f0 f1 f2 c6 c8
          obtain ⟨⟨c0, c1, c2⟩, f0, f1, f2⟩ := blk3 k15'
          have hcs3 := (((hc.trans hc4).setCell (p := ⟨q15, 0, none⟩) (.inr hx6) (.int .i64 200)).setCell (p := ⟨q15, 1, none⟩) (.inr hx6) (.int .i64 200)).setCell (p := ⟨q15, 2, none⟩) (.inr hx6) (.int .i64 st')
          have h15 := ((k15'.set 0 (.int .i64 200)).set 1 (.int .i64 200)).set 2 (.int .i64 st')
          have hc15 := (((Chg.refl (· = q15) wc).setCell (p := ⟨q15, 0, none⟩) (.inl rfl) (.int .i64 200)).setCell (p := ⟨q15, 1, none⟩) (.inl rfl) (.int .i64 200)).setCell (p := ⟨q15, 2, none⟩) (.inl rfl) (.int .i64 st')
          have hA9 := hA4.chg hc15 (show ¬ P = q15 by omega) (show ¬ b = q15 by omega)
          have k89 := k8'.chg hc15 (show ¬ ab = q15 by omega)
          go_wp2
          go_roundw
          case rel => exact ⟨n + 1, l3, np', st', by omega, by go_num, hA9, hcp', fun k hk h => by
            by_cases e : k = kk
            · rw [e]; exact hnk
            · exact hmono k (hdone k hk (hkd k e h)), k89, h15, hcs3⟩
          case measure => simp [intOf]; omega
      -- C]
    · have HAll : All l1 l2 os m np st := ⟨hcp, fun k hk => hdone k hk (by omega), hobs1, hoff, hl1⟩
      have hl2 : l2.length = 400 := by rw [hcp.len]; exact hl1
      have hz2 : l2.getD 0 0 = 0 := hcp.zero.trans hz1'
      have hT := trn_start HAll
      have t0 : decide ((n : Int) < ((len2 + m : Nat) : Int)) = false := decide_eq_false (by omega)
      have t0' : decide (n < len2 + m) = false := decide_eq_false hlt
      clear hcp hdone k15
      go_wp2
      obtain ⟨w7, rfl⟩ : ∃ w7 : World, w7 = wr := ⟨_, rfl⟩
      go_loopw [23] (fun i wr => ∃ (k : Nat) (l4 : List Int), k ≤ m ∧ i = .int .i64 k ∧ ArenaAt 65 wr P b l4 ∧ Trn l1 l2 l4 os m np k 0 ∧ BlkIs wr ab #[.pointer (some ⟨P, 0, none⟩)] 25 ∧ Chg (· = b) x5 wr) (fun i _ => m - (intOf i).toNat)
      case atStart => exact ⟨0, l2, by omega, rfl, hA, hT, k8, hc⟩
      case round =>
        clear hA hT k8 hc hcs hlt hn t0 t0'
        obtain ⟨k, l4, hk, rfl, hA, hT, k8, hc⟩ := hrel
        have hcs := hc.size
        by_cases hkm : k < m
        -- [E
        · obtain ⟨gw, rfl, hgc, hgb, hgl, hgr⟩ := Hw.out (by omega)
          have c6 := (hc.cell (p := ⟨gw, k, none⟩) hgl (by show ¬ gw = b; omega)).trans (hgr k hkm)
          have hpl := HAll.place hkm
          have hO := hT.obj HAll hkm
          have hln := hT.len
          have hom : 1 + off os k < 200 := by have := (hobs1 k hkm).room; have := off_lt os hkm; omega
          have M1 := now_any ab ((1 + off os k : Nat) : Int) (np k) wr hA k8 (by omega) (by rw [hT.low 0 (by omega)]; exact hz2) (.inr ⟨1 + off os k, rfl, by omega, by omega, by omega, by rw [hT.low _ hom]; exact HAll.cpd.gone k hkm (HAll.all k hkm)⟩)
          have j3 : (0 : Int) ≤ (k : Int) := by omega
          have j4 : (k : Int) < (m : Int) := by omega
          obtain ⟨u, hu⟩ : ∃ u, 1 + off os k = u := ⟨_, rfl⟩
          rw [hu] at c6 M1
          clear hgr hu
          go_wp2_with fail
          refine M1.mono ?_
          rintro e x6 ⟨rfl, hb⟩
          clear M1 c6
          replace hA := hA.below hb hA.lt.1 hA.lt.2
          replace k8 := k8.on hb
          replace hc := hc.trans (Chg.of_below hb (Nat.le_refl _))
          have M2 := shape_at (np k) x6 hA hO
          have c8 : x6.cell? ⟨ab, 0, none⟩ = some (.pointer (some ⟨P, 0, none⟩)) := k8.cell 0
          clear hb
          go_wp2_with fail
          clear c8
          refine M2.mono ?_
          rintro e x7 ⟨rfl, hb⟩
          clear M2
          have k25 := BlkIs.new x7 #[.int .i64 (os k).p, .int .i64 (os k).d, .bool (os k).wk, .bool (os k).fn] 51
          have hb1 := hb.alloc hb.size (.cells #[.int .i64 (os k).p, .int .i64 (os k).d, .bool (os k).wk, .bool (os k).fn] 51)
          have hAl7 := hA.lt
          have h7s := hb.size
          replace hA := hA.below hb1 hAl7.1 hAl7.2
          replace k8 := k8.on hb1
          replace hc := hc.trans (Chg.of_below hb1 (Nat.le_refl _))
          clear hb hb1
          go_wp2
          have hOp := hO.ptrs
          obtain ⟨q25, hq25⟩ : ∃ q, x7.heap.size = q := ⟨_, rfl⟩
          rw [hq25] at k25 ⊢
          generalize x7.alloc (.cells #[.int .i64 (os k).p, .int .i64 (os k).d, .bool (os k).wk, .bool (os k).fn] 51) = w8 at *
          have n25 : ¬ q25 = b := by omega
          clear hq25 hO h7s hAl7
          go_loopw [28] (fun j wr => ∃ (t : Nat) (l4 : List Int), t ≤ (os k).p ∧ j = .int .i64 t ∧ ArenaAt 65 wr P b l4 ∧ Trn l1 l2 l4 os m np k t ∧ BlkIs wr ab #[.pointer (some ⟨P, 0, none⟩)] 25 ∧ BlkIs wr q25 #[.int .i64 (os k).p, .int .i64 (os k).d, .bool (os k).wk, .bool (os k).fn] 51 ∧ Chg (· = b) x5 wr) (fun j _ => (os k).p - (intOf j).toNat)
          case atStart => exact ⟨0, l4, by omega, rfl, hA, hT, k8, k25, hc⟩
          case round =>
            clear hA hT k8 k25 hc hln
            obtain ⟨t, l5, ht, rfl, hA, hT, k8, k25, hc⟩ := hrel
            have c25 : wr.cell? ⟨q25, 0, none⟩ = some (.int .i64 (os k).p) := k25.cell 0
            by_cases htp : t < (os k).p
            · have hy := hT.ptr hkm htp
              have hln := hT.len
              have hO := hT.obj HAll hkm
              have hpt : l1.getD (1 + off os k + (3 + t)) 0 = 0 ∨ l1.getD (1 + off os k + (3 + t)) 0 ∈ plZ os 1 m := by
                obtain ⟨a, p, d, wk, fn, fr, ea, h0, ho, hs, hpt⟩ := hV.obj _ (mem_plZ.2 ⟨k, hkm, rfl⟩)
                obtain rfl : a = 1 + off os k := by omega
                have e1 := nOf_obj ho
                rw [nOf_obj (hobs1 k hkm)] at e1
                injection e1 with _ e1
                exact hpt t (by omega)
              have hyb := hV.ptr hpt (by omega)
              have M1 := ptr_at (np k) t wr hA hO htp (by rw [hy]; exact hyb)
              rw [hy] at M1
              obtain ⟨v, hv, hv17, hvx⟩ : ∃ v : Nat, (v : Int) = phi l2 (l1.getD (1 + off os k + (3 + t)) 0) ∧ v ≤ 131072 ∧ ((l1.getD (1 + off os k + (3 + t)) 0 = 0 ∧ v = 0) ∨ ∃ a : Nat, l1.getD (1 + off os k + (3 + t)) 0 = (a : Int) ∧ a < l5.length ∧ 1 ≤ v ∧ v ≤ 131072 ∧ l5.getD a 0 = (2 + v * 4 : Nat)) := by
                rcases hpt with h | h
                · exact ⟨0, by rw [h]; rfl, by omega, .inl ⟨h, rfl⟩⟩
                · obtain ⟨j, hj, e⟩ := mem_plZ.1 h
                  have hplj := HAll.place hj
                  have homj : 1 + off os j < 200 := by have := off_lt os hj; omega
                  exact ⟨np j, by rw [e, HAll.phi_at hj], by omega, .inr ⟨1 + off os j, e, by omega, by omega, by omega, by rw [hT.low _ homj]; exact HAll.cpd.gone j hj (HAll.all j hj)⟩⟩
              have HT := Lib.hid (hT.step HAll hkm htp hv)
              generalize l1.getD (1 + off os k + (3 + t)) 0 = y at *
              have c8 : wr.cell? ⟨ab, 0, none⟩ = some (.pointer (some ⟨P, 0, none⟩)) := k8.cell 0
              clear hy hv
              go_wp2_with fail
              clear c25 c8
              refine M1.mono ?_
              rintro e x8 ⟨rfl, hb⟩
              clear M1
              replace hA := hA.below hb hA.lt.1 hA.lt.2
              replace k8 := k8.on hb
              replace k25 := k25.on hb
              replace hc := hc.trans (Chg.of_below hb (Nat.le_refl _))
              have c8 : x8.cell? ⟨ab, 0, none⟩ = some (.pointer (some ⟨P, 0, none⟩)) := k8.cell 0
              clear hb
              go_upto_region 31 with fail
              have M2 := now_any ab y v x8.drew hA.drew k8.drew (by omega) (by rw [hT.low 0 (by omega)]; exact hz2) hvx
              have k8l := k8.lt
              refine wp_region_noPanic ?_
              refine wp_region_held_drew (S := fun y => y.cell? ⟨ab, 0, none⟩ = some (.pointer (some ⟨P, 0, none⟩))) (by kernel_rfl) c8 (fun hS => ?_)
              first
              | (refine wpAnyH_take (i := 0) (v := ?_) rfl (by kernel_rfl) (by kernel_rfl) (by kernel_rfl) (fun _ _ _ h => h) (Or.inl ⟨by rfl, ?_⟩) hS ?_; rotate_left; (· (intro y hy; (try dsimp only at hy); go_simp; try with_reducible rfl)); try simp only [Act.put, List.setIfInBounds_toArray, List.set_cons_zero, List.set_cons_succ, List.getElem_toArray, List.getElem_cons_zero, List.getElem_cons_succ])
              | (refine wpAnyH_take (i := 0) (v := undef) rfl (by kernel_rfl) (by kernel_rfl) (by kernel_rfl) (fun _ _ _ h => h) (Or.inr ⟨by rfl, rfl⟩) hS ?_; try simp only [Act.put, List.setIfInBounds_toArray, List.set_cons_zero, List.set_cons_succ, List.getElem_toArray, List.getElem_cons_zero, List.getElem_cons_succ])
              first
              | (refine wpAnyH_take (i := 1) (v := ?_) rfl (by kernel_rfl) (by kernel_rfl) (by kernel_rfl) (fun _ _ _ h => h) (Or.inl ⟨by rfl, ?_⟩) hS ?_; rotate_left; (· (intro y hy; (try dsimp only at hy); go_simp; try with_reducible rfl)); try simp only [Act.put, List.setIfInBounds_toArray, List.set_cons_zero, List.set_cons_succ, List.getElem_toArray, List.getElem_cons_zero, List.getElem_cons_succ])
              | (refine wpAnyH_take (i := 1) (v := undef) rfl (by kernel_rfl) (by kernel_rfl) (by kernel_rfl) (fun _ _ _ h => h) (Or.inr ⟨by rfl, rfl⟩) hS ?_; try simp only [Act.put, List.setIfInBounds_toArray, List.set_cons_zero, List.set_cons_succ, List.getElem_toArray, List.getElem_cons_zero, List.getElem_cons_succ])
              first
              | (refine wpAnyH_take (i := 2) (v := ?_) rfl (by kernel_rfl) (by kernel_rfl) (by kernel_rfl) (fun _ _ _ h => h) (Or.inl ⟨by rfl, ?_⟩) hS ?_; rotate_left; (· (intro y hy; (try dsimp only at hy); go_simp; try with_reducible rfl)); try simp only [Act.put, List.setIfInBounds_toArray, List.set_cons_zero, List.set_cons_succ, List.getElem_toArray, List.getElem_cons_zero, List.getElem_cons_succ])
              | (refine wpAnyH_take (i := 2) (v := undef) rfl (by kernel_rfl) (by kernel_rfl) (by kernel_rfl) (fun _ _ _ h => h) (Or.inr ⟨by rfl, rfl⟩) hS ?_; try simp only [Act.put, List.setIfInBounds_toArray, List.set_cons_zero, List.set_cons_succ, List.getElem_toArray, List.getElem_cons_zero, List.getElem_cons_succ])
              first
              | (refine wpAnyH_take (i := 3) (v := ?_) rfl (by kernel_rfl) (by kernel_rfl) (by kernel_rfl) (fun _ _ _ h => h) (Or.inl ⟨by rfl, ?_⟩) hS ?_; rotate_left; (· (intro y hy; (try dsimp only at hy); go_simp; try with_reducible rfl)); try simp only [Act.put, List.setIfInBounds_toArray, List.set_cons_zero, List.set_cons_succ, List.getElem_toArray, List.getElem_cons_zero, List.getElem_cons_succ])
              | (refine wpAnyH_take (i := 3) (v := undef) rfl (by kernel_rfl) (by kernel_rfl) (by kernel_rfl) (fun _ _ _ h => h) (Or.inr ⟨by rfl, rfl⟩) hS ?_; try simp only [Act.put, List.setIfInBounds_toArray, List.set_cons_zero, List.set_cons_succ, List.getElem_toArray, List.getElem_cons_zero, List.getElem_cons_succ])
              first
              | (refine wpAnyH_take (i := 4) (v := ?_) rfl (by kernel_rfl) (by kernel_rfl) (by kernel_rfl) (fun _ _ _ h => h) (Or.inl ⟨by rfl, ?_⟩) hS ?_; rotate_left; (· (intro y hy; (try dsimp only at hy); go_simp; try with_reducible rfl)); try simp only [Act.put, List.setIfInBounds_toArray, List.set_cons_zero, List.set_cons_succ, List.getElem_toArray, List.getElem_cons_zero, List.getElem_cons_succ])
              | (refine wpAnyH_take (i := 4) (v := undef) rfl (by kernel_rfl) (by kernel_rfl) (by kernel_rfl) (fun _ _ _ h => h) (Or.inr ⟨by rfl, rfl⟩) hS ?_; try simp only [Act.put, List.setIfInBounds_toArray, List.set_cons_zero, List.set_cons_succ, List.getElem_toArray, List.getElem_cons_zero, List.getElem_cons_succ])
              refine wpAnyH_ready (rs := [5]) (by kernel_rfl) (by simp) ?_
              refine AllReadyH.cons (o := _) rfl (fun K hK => ?_) AllReadyH.nil
              go_simp
              refine M2.mono ?_
              rintro e x9 ⟨rfl, hb⟩
              replace hb : Below x8.heap.size x8 x9 := (Below.refl x8.heap.size x8).drew.trans hb
              refine hK.out _ _ ((hb.cell (p := ⟨ab, 0, none⟩) k8l).trans c8) (fun hS => ?_)
              clear hK K
              try simp only [Act.put, List.setIfInBounds_toArray, List.set_cons_zero, List.set_cons_succ]
              clear M2
              replace hA := hA.below hb hA.lt.1 hA.lt.2
              replace k8 := k8.on hb
              replace k25 := k25.on hb
              replace hc := hc.trans (Chg.of_below hb (Nat.le_refl _))
              have M3 := setPtr_at (np k) t v x9 hA hO htp hv17
              refine wpAnyH_ready (rs := [6]) (by kernel_rfl) (by simp) ?_
              refine AllReadyH.cons (o := _) rfl (fun K hK => ?_) AllReadyH.nil
              go_simp
              refine M3.mono ?_
              rintro e x10 ⟨rfl, hA10, hc10⟩
              refine hK.out _ _ (((k8.chg hc10 nab).cell 0)) (fun hS => ?_)
              clear hK K
              try simp only [Act.put, List.setIfInBounds_toArray, List.set_cons_zero, List.set_cons_succ]
              refine wpAnyH_done (by kernel_rfl) ?_ _
              refine NoPanic.normal ?_
              clear hS M3 c8
              go_wp2
              go_roundw
              case rel => exact ⟨t + 1, _, by omega, by go_num, hA10, HT.out, k8.chg hc10 nab, k25.chg hc10 n25, hc.trans hc10⟩
              case measure => simp [intOf]; omega
            · obtain rfl : t = (os k).p := by omega
              go_wp2
              go_roundw
              case rel => exact ⟨k + 1, l5, by omega, by go_num, hA, hT.next HAll, k8, hc⟩
              case measure => simp [intOf]; omega
        -- E]
        · obtain rfl : k = m := by omega
          have hl4 : l4.length = 400 := by rw [hT.len]; exact hl2
          have hz4 : l4.getD 0 0 = 0 := by rw [hT.low 0 (by omega)]; exact hz2
          have hlow : ∀ c, c < 200 → l4.getD c 0 = l2.getD c 0 := hT.low
          have hV4 := objV_turned HAll hT hV
          have hrb4 : ∀ x ∈ rs, (x = 0 ∧ phi l2 x = 0) ∨ ∃ j, j < k ∧ x = ((1 + off os j : Nat) : Int) := fun x hx => (hri' x hx).imp (fun e => ⟨e, by rw [e]; rfl⟩) fun h => mem_plZ.1 h
          obtain ⟨rva, rvc, hrv, hrc⟩ := Hrr.out.slice
          have Hrc : Hid (0 < rs.length → ∃ g, rva = some ⟨g, 0, none⟩ ∧ g < x5.heap.size ∧ b < g ∧ ∀ j, j < rs.length → x5.cell? ⟨g, j, none⟩ = some (.int .i64 (rs.getD j 0))) := Lib.hid fun h => by
            obtain ⟨g, e, h1, h2, h3⟩ := hrc h
            exact ⟨g, e, h1, HrB.out g (by rw [hrv, e]; rfl), h3⟩
          have Hrv := Lib.hid hrv
          subst hrv
          clear hrc hkm
          go_wp2
          obtain ⟨w9, rfl⟩ : ∃ w9 : World, w9 = wr := ⟨_, rfl⟩
          obtain ⟨B9, hB9⟩ : ∃ B, w9.heap.size = B := ⟨_, rfl⟩
          have HB9 := Lib.hid hB9
          have hl8' := k8.lt
          have hA4l := hA.lt
          rw [hB9] at hl8' hA4l hcs
          clear hB9
          go_loopw [31, 32] (fun out i wr => ∃ t : Nat, t ≤ rs.length ∧ i = .int .i64 t ∧ wr.ownsRow B9 3 1 out t (((rs.take t).map (phi l2)).map (Value.int .i64)) ∧ Chg (fun c => B9 ≤ c) w9 wr) (fun _ i _ => rs.length - (intOf i).toNat)
          case atStart => exact ⟨0, by omega, rfl, World.ownsRow_nil _ _ _ _, Chg.refl _ _⟩
          case round =>
            obtain ⟨t, ht, rfl, hown, hch⟩ := hrel
            have hbase : B9 ≤ wr.heap.size := by have := hch.size; have := HB9.out; omega
            by_cases htl : t < rs.length
            -- [F
            · obtain ⟨g, rfl, hgl, hgb, hgr⟩ := Hrc.out (by omega)
              have c6 := (hch.cell (p := ⟨g, t, none⟩) (by have := HB9.out; show g < _; omega) (by show ¬ B9 ≤ g; omega)).trans ((hc.cell (p := ⟨g, t, none⟩) hgl (by show ¬ g = b; omega)).trans (hgr t htl))
              have hxr := hrb4 _ (getD_mem htl)
              have Hs : Hid (((rs.take t).map (phi l2)).map (Value.int .i64) ++ [.int .i64 (phi l2 (rs.getD t 0))] = ((rs.take (t + 1)).map (phi l2)).map (Value.int .i64)) := Lib.hid (by
                have e : rs.take (t + 1) = rs.take t ++ [rs.getD t 0] := by rw [List.take_succ_eq_append_getElem htl]; simp [List.getD, htl]
                rw [e, List.map_append, List.map_append]; rfl)
              obtain ⟨v, hv, hvx⟩ : ∃ v : Nat, phi l2 (rs.getD t 0) = (v : Int) ∧ ((rs.getD t 0 = 0 ∧ v = 0) ∨ ∃ a : Nat, rs.getD t 0 = (a : Int) ∧ a < l4.length ∧ 1 ≤ v ∧ v ≤ 131072 ∧ l4.getD a 0 = (2 + v * 4 : Nat)) := by
                rcases hxr with ⟨e, e2⟩ | ⟨j, hj, e⟩
                · exact ⟨0, e2, .inl ⟨e, rfl⟩⟩
                · have hplj := HAll.place hj
                  have homj : 1 + off os j < 200 := by have := off_lt os hj; omega
                  exact ⟨np j, by rw [e, HAll.phi_at hj], .inr ⟨1 + off os j, e, by omega, by omega, by omega, by rw [hlow _ homj]; exact HAll.cpd.gone j hj (HAll.all j hj)⟩⟩
              rw [hv] at Hs
              generalize rs.getD t 0 = y at *
              have M1 := now_any ab y v wr (hA.chg hch (by omega) (by omega)) (k8.chg hch (by omega)) (by omega) hz4 hvx
              have j3 : (0 : Int) ≤ (t : Int) := by omega
              have j4 : (t : Int) < (rs.length : Int) := by omega
              clear hgr hvx hv hxr
              go_wp2_with fail
              refine M1.mono ?_
              rintro e x6 ⟨rfl, hb⟩
              clear M1 c6
              have hown6 := own_chg hown (Chg.of_below (S := fun _ => False) hb (Nat.le_refl _)) (fun _ _ h => h)
              have hch6 := hch.trans (Chg.of_below (S := fun c => B9 ≤ c) hb (Nat.le_refl _))
              have hb6 : B9 ≤ x6.heap.size := Nat.le_trans hbase hb.size
              have hti : t ≤ 1000 := by omega
              clear hb
              go_wp2_with (at_builtin; refine wpList_append_own _ rfl _ _ 23 rfl B9 3 i0 (.int .i64 0) 1 8 Try.underlying23 hi iz0 iz1 iz2 rfl (by decide) u31 _ _ rfl (hown6.alloc _) ⟨x6.heap.size, 0, none⟩ 1 1 [.int .i64 v] rfl rfl (cell_one_new _ _ _) (by simp [Value.oneCell']) (by unfold maxLen; omega) (by omega) (by simp; omega) ?_; intro v' w2 hown2 hgr2 hnil)
              go_roundw
              case rel => exact ⟨t + 1, by omega, by go_num, by rw [Hs.out] at hown2; exact hown2, (hch6.alloc _).trans (chg_of_append (hown6.alloc _) hgr2)⟩
              case measure => simp [intOf]; omega
            -- F]
            · obtain rfl : t = rs.length := by omega
              rw [List.take_length] at hown
              have hrr2 : ReadsAs .i64 wr u31 (rs.map (phi l2)) := readsAs_of_owns hown
              have hAr := hA.chg hch (show ¬ B9 ≤ P by omega) (show ¬ B9 ≤ b by omega)
              have k8r := k8.chg hch (show ¬ B9 ≤ ab by omega)
              have hcA : Chg (· = b) x5 wr := hc.step hch fun c e => .inr (by omega)
              have hR := reachO_map (G := gOf l1) (H := gOf l4) (φ := phi l2) (plZ os 1 k).length hri' hG.shut (gOf_turned HAll hT) rfl (phi_ne HAll) (phi_inj HAll)
              have M1 := canon_any P b l4 ((plZ os 1 k).map (phi l2)) (gOf l4) (nOf l4) u31 (rs.map (phi l2)) wr (grph_of hV4 (by omega)) (nods_of hV4 (by omega)) hAr hrr2 (fun x hx => by
                obtain ⟨y, hy, rfl⟩ := List.mem_map.1 hx
                exact (hri' y hy).imp (fun e => by rw [e]; rfl) fun h => List.mem_map.2 ⟨y, h, rfl⟩) (by simp; omega)
              have I1 := reachO_inv (G := gOf l1) hri' hG.shut
              rw [List.length_map, hR] at M1
              have hR8 := I1.len
              have hG8 := hG.len
              obtain ⟨R, hRe⟩ : ∃ R, reachO (gOf l1) (plZ os 1 k).length rs = R := ⟨_, rfl⟩
              have HN' := HN.out
              have Ht' := Ht.out
              rw [hRe] at M1 I1 hR8 HN' Ht'
              have Heq : ∀ i, i < R.length → ndO (R.map (phi l2)) (nOf l4 ((R.map (phi l2)).getD i 0)) = ndO R (nOf l1 (R.getD i 0)) := fun i hi => by
                have hx := I1.sub _ (getD_mem hi)
                have e1 : (R.map (phi l2)).getD i 0 = phi l2 (R.getD i 0) := by simp [List.getD, hi]
                rw [e1, nOf_turned HAll hT _ hx]
                unfold ndO
                congr 1
                show ((nOf l1 (R.getD i 0)).ptrs.map (phi l2)).map (rankV (R.map (phi l2))) = _
                rw [List.map_map]
                refine List.map_congr_left fun y hy => ?_
                obtain ⟨a, p, d, wk, fn, fr, ea, h0, ho, hs, hpt⟩ := hV.obj _ hx
                rw [ea, nOf_obj ho] at hy
                obtain ⟨j, hj, rfl⟩ := mem_ptrL hy
                exact rankV_map I1.sub (hpt j hj) rfl (phi_ne HAll) (phi_inj HAll)
              have Hrq : (rs.map (phi l2)).map (rankV (R.map (phi l2))) = rs.map (rankV R) := by
                rw [List.map_map]
                exact List.map_congr_left fun y hy => rankV_map I1.sub (hri' y hy) rfl (phi_ne HAll) (phi_inj HAll)
              rw [Hrq] at M1
              have hN9 := HN'.chg hcA (fun c h1 h2 e => by omega)
              have ht9 := Ht'.chg hcA (fun c h1 h2 e => by omega)
              have hB9 := hB0.trans (hcA.below (n := n₀) (fun c e => by omega) (by omega))
              have c8 : wr.cell? ⟨ab, 0, none⟩ = some (.pointer (some ⟨P, 0, none⟩)) := k8r.cell 0
              have hwn : n₀ ≤ wr.heap.size := by have := hcA.size; omega
              clear hown HN Ht HN' Ht' hA hT hV hV4 hrb4 Hrc Hrr HrB Hw hG I1 hR hRe Hrq hri' hobs1 hlow
              go_wp2_with fail
              clear c8
              refine M1.mono ?_
              rintro e z1 ⟨nv2, tv2, rfl, hN2, ht2, hb⟩
              clear M1
              rw [List.length_map] at hN2
              replace hN2 := hN2.same Heq
              replace hN9 := hN9.on hb
              have ht9' := ht9.1.below hb
              replace hB9 := hB9.trans (hb.mono hwn)
              have hzn : n₀ ≤ z1.heap.size := Nat.le_trans hwn hb.size
              clear Heq hb ht9
              go_wp2_with fail
              refine (same_yes _ _ R.length nv nv2 _ z1 hN9 hN2 (by omega)).mono ?_
              rintro e z2 ⟨rfl, hb⟩
              replace ht9' := ht9'.below hb
              have ht2' := ht2.1.below hb
              replace hB9 := hB9.trans (hb.mono hzn)
              have hzn2 : n₀ ≤ z2.heap.size := Nat.le_trans hzn hb.size
              clear hb hN9 hN2 ht2
              go_wp2_with fail
              refine (ints_same tv tv2 _ z2 ht9' ht2').mono ?_
              rintro e z3 ⟨rfl, hb⟩
              go_wp2
              go_ret
              refine ⟨rfl, ?_⟩
              have e := Hn0.out
              rw [e]
              exact hB9.trans (hb.mono hzn2)

set_option maxRecDepth 100000 in
theorem lifted (os : Os) (started : os.Started) (H : Type) (enc : TypeId × Value → H) :
    ReturnsInHanded {} Try.checked os 4 .any (Rows.graphMovedSpec.pre6 enc Try.prog Try.f4 Rows.graphMovedRow.domain false) (Rows.graphMovedSpec.post enc Try.prog Try.f4 false true false false) := by
  refine returnsInHanded_of_change_sized (C := Try.checked) own started (by kernel_rfl) Try.func4
    (ChangeSpec.witness6 (enc := enc) (C := Try.checked) false ⟨#[], #[.slice none 0 0, .slice none 0 0, .slice none 0 0], []⟩ 8 (by kernel_rfl) (by kernel_rfl) (by kernel_rfl) (by kernel_rfl)) ?_
  intro W base args ds gs before hval0 hW hcnd hsz0 _
  have hval : ∀ (j : Nat) t v, Try.f4.params[j]? = some t → args[j]? = some v → Value.okWide Try.prog W .any base t v := hval0
  have hW' := hW
  obtain ⟨p, q, hA0, hV, rfl, hfz, hnd⟩ := hW
  have hA : DataW.TrodAll enc Try.prog W 0 (fun _ => true) true Try.f4.params.toList args.toList ds p := hA0
  rw [Try.params4] at hA hval
  obtain ⟨v0, vs0, d0, ds0, p0, q0, hargs, rfl, rfl, h0, r0⟩ := trodAll_cons hA
  obtain ⟨v1, vs1, d1, ds1, p1, q1, rfl, rfl, rfl, h1, r1⟩ := trodAll_cons r0
  obtain ⟨v2, vs2, d2, ds2, p2, q2, rfl, rfl, rfl, h2, r2⟩ := trodAll_cons r1
  obtain ⟨rfl, rfl, rfl⟩ := trodAll_nil r2
  obtain rfl : args = #[v0, v1, v2] := by cases args; simp_all
  obtain ⟨rfl, rfl⟩ := trodVars_none hV
  have hsz : (DataW.weightsEach Try.prog (Try.f4.params.toList ++ Rows.graphMovedSpec.plain.varTypes Try.prog) ([d0, d1, d2] ++ [])).all (· ≤ reachBytes) = true := hsz0
  rw [Try.params4] at hsz
  obtain ⟨a0, len0, cap0, rfl⟩ := okWide_slice Try.underlying22 (hval 0 22 v0 rfl rfl)
  have k0 := h0
  have lt0 : ∀ x ∈ p0, x.block < W.heap.size := by obtain ⟨m, hm⟩ := k0; exact DataW.trod_lt m _ _ _ hm
  obtain ⟨y0, y0p⟩ := open_nests (n := 8) (ks := rawKinds) Try.underlying22 (by kernel_rfl) (by kernel_rfl) (by decide) h0
  obtain ⟨z0, w0⟩ := raws_of_nest y0p
  obtain ⟨a1, len1, cap1, rfl⟩ := okWide_slice Try.underlying23 (hval 1 23 v1 rfl rfl)
  have k1 := h1
  have lt1 : ∀ x ∈ p1, x.block < W.heap.size := by obtain ⟨m, hm⟩ := k1; exact DataW.trod_lt m _ _ _ hm
  obtain ⟨z1, w1⟩ := open_row Try.underlying23 Try.underlying3 (by kernel_rfl) h1
  obtain ⟨a2, len2, cap2, rfl⟩ := okWide_slice Try.underlying23 (hval 2 23 v2 rfl rfl)
  have k2 := h2
  have lt2 : ∀ x ∈ p2, x.block < W.heap.size := by obtain ⟨m, hm⟩ := k2; exact DataW.trod_lt m _ _ _ hm
  obtain ⟨z2, w2⟩ := open_row Try.underlying23 Try.underlying3 (by kernel_rfl) h2
  have s2 := sized_ints Try.underlying23 Try.underlying3 (by kernel_rfl) k2 hsz (j := 2) rfl rfl (by kernel_rfl)
  clear hsz0 hsz
  clear hA0 hval0
  refine (walk a0 len0 cap0 z0 a1 len1 cap1 z1 a2 len2 cap2 z2 W w0 w1 w2 (by have := reachBytes_lt; omega)).mono fun e W' ⟨he, bel⟩ => ?_
  subst he
  exact ⟨_, rfl, _, _, _, [], _, [], hW', trodAll_mk1 (shut_bool Try.underlying4 _), (trodAll_cons_mk (Below.trod laidOut (by kernel_rfl) (of_decide_eq_true (by kernel_rfl)) k0 bel lt0) (trodAll_cons_mk (Below.trod laidOut (by kernel_rfl) (of_decide_eq_true (by kernel_rfl)) k1 bel lt1) (trodAll_cons_mk (Below.trod laidOut (by kernel_rfl) (of_decide_eq_true (by kernel_rfl)) k2 bel lt2) trodAll_mk0))), rfl, bel.frame _, fun h => by cases h⟩

theorem over : Rows.graphMovedRow.holds Try.pinned (OpenSpec.ofChange Rows.graphMovedSpec) :=
  OpenClaim.holds_of_wide 4 Try.f4 rfl rfl rfl rfl rfl rfl rfl ⟨rfl, rfl, rfl, rfl, rfl⟩ rfl rfl rfl rfl rfl (by kernel_rfl) Try.func4 (by kernel_rfl)
    (of_decide_eq_true (by kernel_rfl)) (by unfold Func.isWrapper; first | (rw [if_pos (by decide +kernel)]; kernel_rfl) | (rw [if_neg (by decide +kernel)]; exact ⟨rfl, rfl⟩))
    (fun os started H enc _ => lifted os started H enc)

theorem proved : Rows.GraphMovedSaid := over
#print axioms proved

end Go.Proofs.Ytceedbkacbaaiaa.graphMoved
