/- For all raw widths and every word: Pack undoes Unpack, and a word with more bits than the widths is not unpacked: the law WordForth returns true and its arguments read as they did. No condition. -/
import Derived.Test.YtadncljhckakmaaLawWordBack
namespace Go.Proofs.Ytadncljhckakmaa.wordForth
open Go.ChangeShapes Go.WideShapes Go.ChangeAt Go.RowKit

set_option linter.unusedSimpArgs false
set_option linter.unusedVariables false

theorem shr_pos (v : Nat) (s : Nat) : 0 < (v : Int) / 2 ^ s ↔ ¬ v < 2 ^ s := by
  have e2 : (2 : Int) ^ s = ((2 ^ s : Nat) : Int) := by simp
  rw [e2, ← Int.natCast_ediv]
  have hp := Nat.two_pow_pos s
  constructor
  · intro h hl
    rw [Nat.div_eq_of_lt hl] at h
    omega
  · intro h
    have := (Nat.le_div_iff_mul_le hp).2 (show 1 * 2 ^ s ≤ v by omega)
    omega
theorem sum_snoc (ds : List Nat) (k : Nat) : svOf ds k + dvOf ds k = svOf ds (k + 1) := (svOf_succ ds k).symm

set_option maxRecDepth 100000 in
set_option maxHeartbeats 2000000 in
theorem walk (a0 : Option Addr) (len0 cap0 : Nat) (z0 : List Int) (a1 : Int) (w : World) (w0 : IsRow .i64 w a0 len0 cap0 z0) (w1 : 0 ≤ a1 ∧ a1 ≤ 18446744073709551615) :
    Calls Try.prog 5 #[.slice a0 len0 cap0, .int .u64 a1] w fun e w' => e = .returned (.bool true) ∧ Below w.heap.size w w' := by
  obtain ⟨v, rfl⟩ : ∃ j : Nat, a1 = j := ⟨a1.toNat, by omega⟩
  have hvb : v < 18446744073709551616 := by omega
  go_enter Try.func5, Try.ntmps5
  go_wp2_with fail
  refine (awake_any _).mono ?_
  rintro e x1 ⟨rfl, hb1⟩
  have hw0 : IsRow .i64 x1 a0 len0 cap0 z0 := w0.imp id fun ⟨b, off, e, hb, h1, h2, h3, hc, h4⟩ => ⟨b, off, e, Nat.lt_of_lt_of_le hb hb1.size, h1, h2, h3, fun i hi => (hb1.cell (p := ⟨b, off + i, none⟩) hb).trans (hc i hi), h4⟩
  clear w0
  go_wp2_with fail
  refine (widths_any _ _ _ _ _ hw0).mono ?_
  rintro e x2 ⟨sv, ds, rfl, hown, hwide, hb2⟩
  obtain ⟨-, hints⟩ := intsAt_own hown
  obtain ⟨am, cm, rfl, hform⟩ := hints.form
  have hB2 := hb1.trans (hb2.mono hb1.size)
  have hlen := hwide.length
  have hall := hwide.all
  have h1 : ∀ d ∈ ds, 1 ≤ d := fun d hd => (hwide.each d hd).1
  have H1 := Lib.hid h1
  have Hi := Lib.hid hints
  have Hf := Lib.hid hform
  have Hs := Lib.hid (sum_snoc ds)
  clear hwide hints hform hown hb1 hb2 hw0 h1
  go_wp2
  go_loop [7, 8] (fun n i => ∃ k : Nat, k ≤ ds.length ∧ i = .int .i64 k ∧ n = .int .i64 (svOf ds k)) (fun _ i => ds.length - (intOf i).toNat)
  case atStart => exact ⟨0, Nat.zero_le _, rfl, by rw [svOf_zero]⟩
  case round =>
    obtain ⟨k, hk, rfl, rfl⟩ := hrel
    have s0 : 0 ≤ svOf ds k := by unfold svOf; omega
    have s1 : svOf ds k + dvOf ds k ≤ 64 := by have := Wd.sh_in ds k; unfold svOf dvOf; omega
    have s2 : 0 ≤ dvOf ds k := by unfold dvOf; omega
    by_cases hlt : k < ds.length
    · obtain ⟨bm, om, rfl, hbm, hcm⟩ := Hf.out k hlt
      go_wp2
      go_round
      case rel => exact ⟨k + 1, by omega, by go_num, by rw [Hs.out]⟩
      case measure => simp [intOf]; omega
    · obtain rfl : k = ds.length := by omega
      have hsv : svOf ds ds.length = ((ds.sum : Nat) : Int) := by unfold svOf; rw [Wd.sh_all]
      rw [hsv] at s0
      go_wp2_with fail
      refine (unpack_any ds v hvb hall H1.out hlen _ _ _ Hi.out).mono ?_
      rintro e x4 ⟨s4, rfl, hok, hno, hb4⟩
      clear hsv s1 s2
      have hB4 := hB2.trans (hb4.mono hB2.size)
      by_cases hfit : v < 2 ^ ds.sum
      · rw [decide_eq_true hfit]
        have hown4 := hok hfit
        have hnot : ¬ 0 < (v : Int) / 2 ^ ds.sum := fun h => (shr_pos v ds.sum).1 h hfit
        have hd : decide (0 < (v : Int) / 2 ^ ds.sum) = false := decide_eq_false hnot
        have Hfit := Lib.hid hfit
        obtain ⟨-, hw4⟩ := wordsAt_own hown4
        obtain ⟨a4, c4, rfl, -⟩ := hw4.form
        have Hw4 := Lib.hid hw4
        have Hmi4 := Lib.hid ((Hi.out.below hb4).mono hb4.size)
        have Hacc := Lib.hid (Wd.acc_nums ds v hall hfit)
        have Hnl : Hid ((Wd.nums ds v (List.range ds.length)).length = ds.length) := Lib.hid (by rw [Wd.nums_length, List.length_range])
        have Hnf : Hid (∀ k, (Wd.nums ds v (List.range ds.length)).getD k 0 < 2 ^ ds.getD k 0) := fun k => by
          by_cases h : k < ds.length
          · rw [Wd.nums_getD _ _ _ _ h]; exact Wd.get_lt _ _ _
          · rw [List.getD, List.getElem?_eq_none (by simp [Wd.nums]; omega)]; exact Nat.two_pow_pos _
        clear hok hno hown4 hw4 hb4 hfit hnot
        by_cases h64 : ds.sum < 64
        · have hd64 : decide (((ds.sum : Nat) : Int) < 64) = true := decide_eq_true (by omega)
          go_wp2_with fail
          refine (pack_any ds (Wd.nums ds v (List.range ds.length)) hall H1.out Hnf Hnl hlen _ _ _ _ _ Hmi4.out Hw4.out).mono ?_
          rintro e x5 ⟨rfl, hb5⟩
          rw [Hacc.out]
          have hB5 := hB4.trans (hb5.mono hB4.size)
          go_wp2
          go_ret
          exact ⟨rfl, hB5⟩
        · have hd64 : decide (((ds.sum : Nat) : Int) < 64) = false := decide_eq_false (by omega)
          go_wp2_with fail
          refine (pack_any ds (Wd.nums ds v (List.range ds.length)) hall H1.out Hnf Hnl hlen _ _ _ _ _ Hmi4.out Hw4.out).mono ?_
          rintro e x5 ⟨rfl, hb5⟩
          rw [Hacc.out]
          have hB5 := hB4.trans (hb5.mono hB4.size)
          go_wp2
          go_ret
          exact ⟨rfl, hB5⟩
      · rw [decide_eq_false hfit]
        obtain rfl := hno hfit
        have h64 : ds.sum < 64 := by
          by_cases h : ds.sum < 64
          · exact h
          · exfalso
            rw [show ds.sum = 64 from by omega] at hfit
            exact hfit (by simpa using hvb)
        have hd64 : decide (((ds.sum : Nat) : Int) < 64) = true := decide_eq_true (by omega)
        have hpos : 0 < (v : Int) / 2 ^ ds.sum := (shr_pos v ds.sum).2 hfit
        have hd : decide (0 < (v : Int) / 2 ^ ds.sum) = true := decide_eq_true hpos
        clear hok hno hfit hb4
        go_wp2
        go_ret
        exact ⟨rfl, hB4⟩

set_option maxRecDepth 100000 in
theorem lifted (os : Os) (started : os.Started) (H : Type) (enc : TypeId × Value → H) :
    ReturnsInHanded {} Try.checked os 5 .any (Rows.wordForthSpec.pre6 enc Try.prog Try.f5 Rows.wordForthRow.domain false) (Rows.wordForthSpec.post enc Try.prog Try.f5 false true false false) := by
  refine returnsInHanded_of_change (C := Try.checked) own started (by kernel_rfl) Try.func5
    (ChangeSpec.witness6 (enc := enc) (C := Try.checked) false ⟨#[], #[.slice none 0 0, .int .u64 0], []⟩ 8 (by kernel_rfl) (by kernel_rfl) (by kernel_rfl) (by kernel_rfl)) ?_
  intro W base args ds gs before hval0 hW hcnd _
  have hval : ∀ (j : Nat) t v, Try.f5.params[j]? = some t → args[j]? = some v → Value.okWide Try.prog W .any base t v := hval0
  have hW' := hW
  obtain ⟨p, q, hA0, hV, rfl, hfz, hnd⟩ := hW
  have hA : DataW.TrodAll enc Try.prog W 0 (fun _ => true) true Try.f5.params.toList args.toList ds p := hA0
  rw [Try.params5] at hA hval
  obtain ⟨v0, vs0, d0, ds0, p0, q0, hargs, rfl, rfl, h0, r0⟩ := trodAll_cons hA
  obtain ⟨v1, vs1, d1, ds1, p1, q1, rfl, rfl, rfl, h1, r1⟩ := trodAll_cons r0
  obtain ⟨rfl, rfl, rfl⟩ := trodAll_nil r1
  obtain rfl : args = #[v0, v1] := by cases args; simp_all
  obtain ⟨rfl, rfl⟩ := trodVars_none hV
  obtain ⟨a0, len0, cap0, rfl⟩ := okWide_slice Try.underlying33 (hval 0 33 v0 rfl rfl)
  have k0 := h0
  have lt0 : ∀ x ∈ p0, x.block < W.heap.size := by obtain ⟨m, hm⟩ := k0; exact DataW.trod_lt m _ _ _ hm
  obtain ⟨z0, w0⟩ := open_row Try.underlying33 Try.underlying3 (by kernel_rfl) h0
  obtain ⟨a1, rfl, rfl, rfl, w1⟩ := open_int Try.underlying22 (hval 1 22 v1 rfl rfl) h1
  clear hA0 hval0
  refine (walk a0 len0 cap0 z0 a1 W w0 (bounds_u64 w1)).mono fun e W' ⟨he, bel⟩ => ?_
  subst he
  exact ⟨_, rfl, _, _, _, [], _, [], hW', trodAll_mk1 (shut_bool Try.underlying4 _), (trodAll_cons_mk (Below.trod laidOut (by kernel_rfl) (of_decide_eq_true (by kernel_rfl)) k0 bel lt0) (trodAll_cons_mk (shut_int Try.underlying22 w1) trodAll_mk0)), rfl, bel.frame _, fun h => by cases h⟩

theorem over : Rows.wordForthRow.holds Try.pinned (OpenSpec.ofChange Rows.wordForthSpec) :=
  OpenClaim.holds_of_wide 5 Try.f5 rfl rfl rfl rfl rfl rfl rfl ⟨rfl, rfl, rfl, rfl, rfl⟩ rfl rfl rfl rfl rfl (by kernel_rfl) Try.func5 (by kernel_rfl)
    (of_decide_eq_true (by kernel_rfl)) (by unfold Func.isWrapper; first | (rw [if_pos (by decide +kernel)]; kernel_rfl) | (rw [if_neg (by decide +kernel)]; exact ⟨rfl, rfl⟩))
    (fun os started H enc _ => lifted os started H enc)

theorem proved : Rows.WordForthSaid := over
#print axioms proved

end Go.Proofs.Ytadncljhckakmaa.wordForth
