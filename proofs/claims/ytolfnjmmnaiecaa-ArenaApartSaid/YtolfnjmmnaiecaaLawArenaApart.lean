/- For every size and any ops on one arena: another one is still all 0: the law ArenaApart returns true and its arguments read as they did. No condition. -/
import Derived.Test.YtolfnjmmnaiecaaArenaLaw
import Derived.Test.YtolfnjmmnaiecaaOpen
namespace Go.Proofs.Ytolfnjmmnaiecaa.arenaApart
open Go.ChangeShapes Go.WideShapes Go.ChangeAt Go.RowKit
set_option linter.unusedVariables false
set_option linter.unusedSimpArgs false

theorem load_new (m k : Nat) (h : m < k) : loadV (List.replicate k 0) m = 0 ∧ errV (List.replicate k (0 : Int)).length m 1 = 0 := by
  have hf : fitsB (List.replicate k (0 : Int)).length m 1 = true := fitsB_of (by omega) (by omega) (by rw [List.length_replicate]; omega)
  unfold loadV errV
  rw [hf]
  simp [List.getD, h]


set_option maxRecDepth 100000 in
set_option maxHeartbeats 1000000 in
theorem walk (a0 : Int) (a1 : Option Addr) (len1 cap1 : Nat) (z1 : Nat → Nat → Value) (w : World) (w0 : -9223372036854775808 ≤ a0 ∧ a0 ≤ 9223372036854775807) (w1 : IsFlat opKinds w a1 len1 cap1 z1) :
    Calls Try.prog 8 #[.int .i64 a0, .slice a1 len1 cap1] w fun e w' => e = .returned (.bool true) ∧ Below w.heap.size w w' := by
  obtain ⟨b0, b1⟩ := w0
  obtain ⟨f, hops⟩ := isOps_of_flat w1
  clear w1 z1
  go_enter Try.func8, Try.ntmps8
  go_wp2_with fail
  refine (awake_any _).mono ?_
  rintro e x1 ⟨rfl, hb1⟩
  go_wp2_with fail
  refine (pick_nat _ 40 _ b0 b1 (by decide) (by decide)).mono ?_
  rintro e x2 ⟨k, hk, rfl, rfl⟩
  go_wp2_with fail
  rw [show (1 : Int) + (k : Int) = ((k + 1 : Nat) : Int) from by omega]
  refine (new_any (k + 1) _ (by omega) (by omega)).mono ?_
  rintro e x2 ⟨p, b, rfl, h1, hp, hb, hb2⟩
  have hl1 := h1.lt
  go_wp2_with fail
  refine (new_any (k + 1) _ (by omega) (by omega)).mono ?_
  rintro e x3 ⟨q, c, rfl, h2, hq, hc, hb3⟩
  have h1 := h1.below hb3 h1.lt.1 h1.lt.2
  have hl2 : (List.replicate (k + 1) (0 : Int)).length = k + 1 := List.length_replicate ..
  have hB3 : Below w.heap.size w x3 := (hb1.trans (hb2.mono hb1.size)).trans (hb3.mono (Nat.le_trans hb1.size hb2.size))
  have l1 : w.heap.size ≤ p := Nat.le_trans hb1.size hp
  have l2 : w.heap.size ≤ b := Nat.le_trans hb1.size hb
  have l3 : w.heap.size ≤ q := Nat.le_trans (Nat.le_trans hb1.size hb2.size) hq
  have l4 : w.heap.size ≤ c := Nat.le_trans (Nat.le_trans hb1.size hb2.size) hc
  have n1 : ¬ q = b := by omega
  have n2 : ¬ c = b := by omega
  clear hb1 hb2 hb3 hp hq hb hc hl1
  have H2 := Lib.hid h2
  clear h2
  go_wp2_with fail
  refine (len_any _ h1).mono ?_
  rintro e x4 ⟨rfl, rfl⟩
  rw [hl2]
  clear hl2
  go_wp2
  go_loopw [11] (fun i wr => ∃ (j : Nat) (l : List Int), j ≤ 20 ∧ i = .int .i64 j ∧ ArenaAt 48 wr p b l ∧ ArenaAt 48 wr q c (List.replicate (k + 1) 0) ∧ Below w.heap.size w wr) (fun i _ => 20 - (intOf i).toNat)
  case atStart => exact ⟨0, _, by omega, rfl, h1, H2.out, hB3⟩
  case round =>
    obtain ⟨j, l, hj, rfl, ha, hq, hbw⟩ := hrel
    by_cases h0 : j < len1
    · by_cases h20 : j < 20
      · have hd : decide ((j : Int) < 20) = true := by simp; omega
        rcases hops with ⟨e, -⟩ | ⟨bo, off, rfl, hbo, hlc, hcm, hcell⟩
        · exact absurd h0 (by omega)
        · obtain ⟨⟨-, ca, -, cn, cw⟩, -, fa, -, fn, fw⟩ := hcell j (by omega)
          have ca := (hbw.cell (p := ⟨bo, off + j * 5 + 1, none⟩) hbo).trans ca
          have cn := (hbw.cell (p := ⟨bo, off + j * 5 + 3, none⟩) hbo).trans cn
          have cw := (hbw.cell (p := ⟨bo, off + j * 5 + 4, none⟩) hbo).trans cw
          have hpb : ¬ bo = b := by omega
          generalize (f j).a = xa at ca fa
          generalize (f j).n = xn at cn fn
          generalize (f j).w = xw at cw fw
          clear hcell hlc hcm
          go_wp2
          go_region_held3 (fun x => x.cell? ⟨bo, off + j * 5 + 1, none⟩ = some (.int .i64 xa) ∧ x.cell? ⟨bo, off + j * 5 + 3, none⟩ = some (.int .i64 xn) ∧ x.cell? ⟨bo, off + j * 5 + 4, none⟩ = some (.int .u64 xw)) 
            (first | go_keep | exact ⟨(hch.cell (p := ⟨bo, _, none⟩) (Nat.lt_of_lt_of_le hbo hbw.size) hpb).trans ca, (hch.cell (p := ⟨bo, _, none⟩) (Nat.lt_of_lt_of_le hbo hbw.size) hpb).trans cn, (hch.cell (p := ⟨bo, _, none⟩) (Nat.lt_of_lt_of_le hbo hbw.size) hpb).trans cw⟩)
            ((go_at_call 15; refine (fill_any _ _ _ _ ha.drew fa.1 fa.2 fn.1 fn.2 fw).mono ?_; rintro e w2 ⟨rfl, ha2, hch⟩))
          go_wp2
          go_roundw
          case rel => exact ⟨j + 1, _, by omega, by go_num, ha2, hq.drew.chg hch n1 n2, hbw.drew.trans (hch.below (fun k e => by omega) hbw.size)⟩
          case measure => simp [intOf]; omega
      · have hd : decide ((j : Int) < 20) = false := by simp; omega
        go_wp2
        go_loop [12] (fun i => ∃ m : Nat, m ≤ k + 1 ∧ i = .int .i64 m) (fun i => k + 1 - (intOf i).toNat)
        case atStart => exact ⟨0, by omega, rfl⟩
        case round =>
          obtain ⟨m, hm, rfl⟩ := hrel
          by_cases hlt : m < k + 1
          · obtain ⟨e1, e2⟩ := load_new m (k + 1) hlt
            have E1 := Lib.hid e1
            have E2 := Lib.hid e2
            clear e1 e2
            go_wp2_with ((with_reducible refine (load_any _ _ hq (by omega) (by omega)).mono ?_); rintro e w' ⟨rfl, rfl⟩; rw [E1.out, E2.out])
            go_round
            case rel => exact ⟨m + 1, by omega, by go_num⟩
            case measure => simp [intOf]; omega
          · go_wp2
            go_ret
            exact ⟨rfl, hbw⟩
    · skip
      go_wp2
      go_loop [12] (fun i => ∃ m : Nat, m ≤ k + 1 ∧ i = .int .i64 m) (fun i => k + 1 - (intOf i).toNat)
      case atStart => exact ⟨0, by omega, rfl⟩
      case round =>
        obtain ⟨m, hm, rfl⟩ := hrel
        by_cases hlt : m < k + 1
        · obtain ⟨e1, e2⟩ := load_new m (k + 1) hlt
          have E1 := Lib.hid e1
          have E2 := Lib.hid e2
          clear e1 e2
          go_wp2_with ((with_reducible refine (load_any _ _ hq (by omega) (by omega)).mono ?_); rintro e w' ⟨rfl, rfl⟩; rw [E1.out, E2.out])
          go_round
          case rel => exact ⟨m + 1, by omega, by go_num⟩
          case measure => simp [intOf]; omega
        · go_wp2
          go_ret
          exact ⟨rfl, hbw⟩

set_option maxRecDepth 100000 in
theorem lifted (os : Os) (started : os.Started) (H : Type) (enc : TypeId × Value → H) :
    ReturnsInHanded {} Try.checked os 8 .any (Rows.arenaApartSpec.pre6 enc Try.prog Try.f8 Rows.arenaApartRow.domain false) (Rows.arenaApartSpec.post enc Try.prog Try.f8 false true false false) := by
  refine returnsInHanded_of_change (C := Try.checked) own started (by kernel_rfl) Try.func8
    (ChangeSpec.witness6 (enc := enc) (C := Try.checked) false ⟨#[], #[.int .i64 0, .slice none 0 0], []⟩ 8 (by kernel_rfl) (by kernel_rfl) (by kernel_rfl) (by kernel_rfl)) ?_
  intro W base args ds gs before hval0 hW hcnd _
  have hval : ∀ (j : Nat) t v, Try.f8.params[j]? = some t → args[j]? = some v → Value.okWide Try.prog W .any base t v := hval0
  have hW' := hW
  obtain ⟨p, q, hA0, hV, rfl, hfz, hnd⟩ := hW
  have hA : DataW.TrodAll enc Try.prog W 0 (fun _ => true) true Try.f8.params.toList args.toList ds p := hA0
  rw [Try.params8] at hA hval
  obtain ⟨v0, vs0, d0, ds0, p0, q0, hargs, rfl, rfl, h0, r0⟩ := trodAll_cons hA
  obtain ⟨v1, vs1, d1, ds1, p1, q1, rfl, rfl, rfl, h1, r1⟩ := trodAll_cons r0
  obtain ⟨rfl, rfl, rfl⟩ := trodAll_nil r1
  obtain rfl : args = #[v0, v1] := by cases args; simp_all
  obtain ⟨rfl, rfl⟩ := trodVars_none hV
  obtain ⟨a0, rfl, rfl, rfl, w0⟩ := open_int Try.underlying3 (hval 0 3 v0 rfl rfl) h0
  obtain ⟨a1, len1, cap1, rfl⟩ := okWide_slice Try.underlying22 (hval 1 22 v1 rfl rfl)
  have k1 := h1
  have lt1 : ∀ x ∈ p1, x.block < W.heap.size := by obtain ⟨m, hm⟩ := k1; exact DataW.trod_lt m _ _ _ hm
  obtain ⟨z1, w1⟩ := open_flats (n := 8) (ks := opKinds) Try.underlying22 (by kernel_rfl) (by kernel_rfl) (by decide) h1
  clear hA0 hval0
  refine (walk a0 a1 len1 cap1 z1 W (bounds_i64 w0) w1).mono fun e W' ⟨he, bel⟩ => ?_
  subst he
  exact ⟨_, rfl, _, _, _, [], _, [], hW', trodAll_mk1 (shut_bool Try.underlying4 _), (trodAll_cons_mk (shut_int Try.underlying3 w0) (trodAll_cons_mk (Below.trod laidOut (by kernel_rfl) (of_decide_eq_true (by kernel_rfl)) k1 bel lt1) trodAll_mk0)), rfl, bel.frame _, fun h => by cases h⟩

theorem over : Rows.arenaApartRow.holds Try.pinned (OpenSpec.ofChange Rows.arenaApartSpec) :=
  OpenClaim.holds_of_wide 8 Try.f8 rfl rfl rfl rfl rfl rfl rfl ⟨rfl, rfl, rfl, rfl, rfl⟩ rfl rfl rfl rfl rfl (by kernel_rfl) Try.func8 (by kernel_rfl)
    (of_decide_eq_true (by kernel_rfl)) (by unfold Func.isWrapper; first | (rw [if_pos (by decide +kernel)]; kernel_rfl) | (rw [if_neg (by decide +kernel)]; exact ⟨rfl, rfl⟩))
    (fun os started H enc _ => lifted os started H enc)

theorem proved : Rows.ArenaApartSaid := over
#print axioms proved

end Go.Proofs.Ytolfnjmmnaiecaa.arenaApart
