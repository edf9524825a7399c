/- For every list of raw ops: whatever a mutator and the collector do to a heap, what one comes to from its registers is as in a heap that is never collected: the law HeapTwins returns true and its arguments read as they did. No condition. -/
import Derived.Test.YtbjmeibcphmgbaaGreatBase4
namespace Go.Proofs.YtbjmeibcphmgbaaGreat.heapTwins
open Go.ChangeShapes Go.WideShapes Go.ChangeAt Go.RowKit
set_option linter.unusedVariables false
set_option linter.unusedSimpArgs false

set_option maxRecDepth 100000 in
set_option maxHeartbeats 4000000 in
theorem walk (a0 : Option Addr) (len0 cap0 : Nat) (z0 : Nat → Nat → Value) (w : World) (h0 : IsFlat opKs w a0 len0 cap0 z0) :
    Calls Tryz.prog 3 #[.slice a0 len0 cap0] w fun e w' => e = .returned (.bool true) ∧ Below w.heap.size w w' := by
  have H0 := Lib.hid h0
  have hl0 := flat_len h0
  clear h0
  obtain ⟨n, hn⟩ : ∃ n, w.heap.size = n := ⟨_, rfl⟩
  have Hn := Lib.hid hn
  rw [hn]
  go_enter Tryz.func3, Tryz.ntmps3
  go_wp2_with fail
  refine (awake_yes _).mono ?_
  rintro e x ⟨rfl, hB⟩
  rw [hn] at hB
  clear hn
  have hxn : n ≤ x.heap.size := by have := hB.size; have := Hn.out; omega
  have MB := begin_from 150 (by omega) (by omega) n x hxn
  go_wp2_with fail
  refine MB.mono ?_
  rintro e y ⟨T, A, B, rfl, hT, hb⟩
  replace hB := hB.trans hb
  have G0 := Lib.hid (ali_new true (z := 150) (by omega) (by omega))
  generalize (⟨Hp.new 150, Hp.new 16000, [0, 0, 0, 0], [0, 0, 0, 0]⟩ : St) = t0 at *
  clear MB hb hxn x
  go_wp2_with fail
  go_loopw [5] (fun i wr => ∃ (k : Nat) (t : St), k ≤ 60 ∧ k ≤ len0 ∧ i = .int .i64 k ∧ Hid (Ali true 150 k t) ∧ TwinFrom n wr T A B t ∧ Below n w wr) (fun i _ => 60 - (intOf i).toNat)
  case atStart => exact ⟨0, t0, by omega, by omega, rfl, G0, hT, hB⟩
  case round =>
    clear hT hB G0
    obtain ⟨k, t, hk, hk0, rfl, hG, hT, hB⟩ := hrel
    have hwr : n ≤ wr.heap.size := by have := hB.size; have := Hn.out; omega
    by_cases hlt : k < len0 ∧ k < 60
    · have d0 : decide ((k : Int) < (len0 : Int)) = true := decide_eq_true (by omega)
      have d1 : decide ((k : Int) < 60) = true := decide_eq_true (by omega)
      obtain ⟨ob, oo, o0, o1, o2, o3, o4, o5, o6, o7, eo, hob, hop⟩ := op_at H0.out hlt.1
      subst eo
      replace hop := hop.on hB (by have := Hn.out; omega)
      have MD := does_yes (nice_ali true 150) hwr hT hG.out (by omega) o0 o1 o2 o3 o4 o5 o6 o7 hop.b0 hop.b1 hop.b2 hop.b3 hop.b4 hop.b5 hop.b6 hop.b7
      obtain ⟨c0, c1, c2, c3, c4, c5, c6, c7⟩ := hop.c
      have b0 : (0 : Int) ≤ (k : Int) := by omega
      have b1 : (k : Int) < (len0 : Int) := by omega
      clear hop hT
      go_wp2_with fail
      refine MD.mono ?_
      rintro e y1 ⟨rfl, t', hT, hG', hb, -⟩
      have hw1 : n ≤ y1.heap.size := by have := hb.size; omega
      replace hB := hB.trans hb
      have MA := alikeT hw1 hT hG'
      have HG' := Lib.hid hG'
      clear MD hG hG' hb c0 c1 c2 c3 c4 c5 c6 c7 hT
      go_wp2_with fail
      refine MA.mono ?_
      rintro e y2 ⟨rfl, hT, hb⟩
      replace hB := hB.trans hb
      clear MA hb
      go_wp2
      go_roundw
      case rel => exact ⟨k + 1, t', by omega, by omega, by go_num, HG', hT, hB⟩
      case measure => simp [intOf]; omega
    · by_cases hl : k < len0
      · have d0 : decide ((k : Int) < (len0 : Int)) = true := decide_eq_true (by omega)
        have d1 : decide ((k : Int) < 60) = false := decide_eq_false (by omega)
        go_wp2
        go_ret
        exact ⟨rfl, hB⟩
      · have d0 : decide ((k : Int) < (len0 : Int)) = false := decide_eq_false (by omega)
        go_wp2
        go_ret
        exact ⟨rfl, hB⟩

set_option maxRecDepth 100000 in
theorem lifted (os : Os) (started : os.Started) (H : Type) (enc : TypeId × Value → H) :
    ReturnsInHanded {} Tryz.checked os 3 .any (Rows.heapTwinsSpec.pre6 enc Tryz.prog Tryz.f3 Rows.heapTwinsRow.domain false) (Rows.heapTwinsSpec.post enc Tryz.prog Tryz.f3 false true false false) := by
  refine returnsInHanded_of_change (C := Tryz.checked) own started (by kernel_rfl) Tryz.func3
    (ChangeSpec.witness6 (enc := enc) (C := Tryz.checked) false ⟨#[], #[.slice none 0 0], []⟩ 8 (by kernel_rfl) (by kernel_rfl) (by kernel_rfl) (by kernel_rfl)) ?_
  intro W base args ds gs before hval0 hW hcnd _
  have hval : ∀ (j : Nat) t v, Tryz.f3.params[j]? = some t → args[j]? = some v → Value.okWide Tryz.prog W .any base t v := hval0
  have hW' := hW
  obtain ⟨p, q, hA0, hV, rfl, hfz, hnd⟩ := hW
  have hA : DataW.TrodAll enc Tryz.prog W 0 (fun _ => true) true Tryz.f3.params.toList args.toList ds p := hA0
  rw [Tryz.params3] at hA hval
  obtain ⟨v0, vs0, d0, ds0, p0, q0, hargs, rfl, rfl, h0, r0⟩ := trodAll_cons hA
  obtain ⟨rfl, rfl, rfl⟩ := trodAll_nil r0
  obtain rfl : args = #[v0] := by cases args; simp_all
  obtain ⟨rfl, rfl⟩ := trodVars_none hV
  obtain ⟨a0, len0, cap0, rfl⟩ := okWide_slice Tryz.underlying22 (hval 0 22 v0 rfl rfl)
  have k0 := h0
  have lt0 : ∀ x ∈ p0, x.block < W.heap.size := by obtain ⟨m, hm⟩ := k0; exact DataW.trod_lt m _ _ _ hm
  obtain ⟨z0, w0⟩ := open_flats (n := 8) (ks := opKs) Tryz.underlying22 (by kernel_rfl) (by kernel_rfl) (by decide) h0
  clear hA0 hval0
  refine (walk a0 len0 cap0 z0 W w0).mono fun e W' ⟨he, bel⟩ => ?_
  subst he
  exact ⟨_, rfl, _, _, _, [], _, [], hW', trodAll_mk1 (shut_bool Tryz.underlying4 _), (trodAll_cons_mk (Below.trod laidOut (by kernel_rfl) (of_decide_eq_true (by kernel_rfl)) k0 bel lt0) trodAll_mk0), rfl, bel.frame _, fun h => by cases h⟩

theorem over : Rows.heapTwinsRow.holds Tryz.pinned (OpenSpec.ofChange Rows.heapTwinsSpec) :=
  OpenClaim.holds_of_wide 3 Tryz.f3 rfl rfl rfl rfl rfl rfl rfl ⟨rfl, rfl, rfl, rfl, rfl⟩ rfl rfl rfl rfl rfl (by kernel_rfl) Tryz.func3 (by kernel_rfl)
    (of_decide_eq_true (by kernel_rfl)) (by unfold Func.isWrapper; first | (rw [if_pos (by decide +kernel)]; kernel_rfl) | (rw [if_neg (by decide +kernel)]; exact ⟨rfl, rfl⟩))
    (fun os started H enc _ => lifted os started H enc)

theorem proved : Rows.HeapTwinsSaid := over
#print axioms proved

end Go.Proofs.YtbjmeibcphmgbaaGreat.heapTwins
