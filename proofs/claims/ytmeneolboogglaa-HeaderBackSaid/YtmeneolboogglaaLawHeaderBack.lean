/- For every word, and small ones: what a word tells makes that word again, and no word is a Head and a Gone: the law HeaderBack returns true and its argument reads as it did. No condition. -/
import Derived.Test.YtmeneolboogglaaHeadLaw
namespace Go.Proofs.Ytmeneolboogglaa.headerBack
open Go.ChangeShapes Go.WideShapes Go.ChangeAt Go.RowKit
set_option linter.unusedVariables false
set_option linter.unusedSimpArgs false

/-- A Head is odd. -/
theorem isHead_odd {a : Nat} (h : isHead a = true) : a % 2 = 1 := by
  unfold isHead headV headN at h
  simp only [Bool.and_eq_true, decide_eq_true_eq] at h
  obtain ⟨h1, h2⟩ := h
  rw [if_pos h1] at h2
  omega
theorem isGone_even {a : Nat} (h : isGone a = true) : a % 2 = 0 := by
  unfold isGone goneN at h
  simp only [Bool.and_eq_true, decide_eq_true_eq] at h
  obtain ⟨h1, h2⟩ := h
  rw [if_pos h1] at h2
  omega
/-- The word in place k. -/
def word (a k : Nat) : Nat := if k = 0 then a else if k = 1 then a % 4096 else a % 524300
theorem word_lt {a : Nat} (ha : a < 18446744073709551616) (k : Nat) : word a k < 18446744073709551616 := by
  unfold word; split
  · exact ha
  · split <;> omega

set_option maxRecDepth 100000 in
set_option maxHeartbeats 4000000 in
theorem walk (a0 : Int) (w : World) (w0 : 0 ≤ a0 ∧ a0 ≤ 18446744073709551615) :
    Calls Try.prog 5 #[.int .u64 a0] w fun e w' => e = .returned (.bool true) ∧ Below w.heap.size w w' := by
  obtain ⟨a, rfl⟩ : ∃ k : Nat, a0 = k := ⟨a0.toNat, by omega⟩
  have ha : a < 18446744073709551616 := by omega
  clear w0
  go_enter Try.func5, Try.ntmps5
  go_wp2_with fail
  refine (awake_yes _).mono ?_
  rintro e x ⟨rfl, hB⟩
  go_wp2_with fail
  have hQ := (BlkIs.new x #[.int .u64 a, .int .u64 ((a : Int) % 4096), .int .u64 ((a : Int) % 524300)] 24)
  replace hB := hB.alloc hB.size (.cells #[.int .u64 a, .int .u64 ((a : Int) % 4096), .int .u64 ((a : Int) % 524300)] 24)
  obtain ⟨q, hq2⟩ : ∃ q, x.heap.size = q := ⟨_, rfl⟩
  obtain ⟨y, hy⟩ : ∃ y, x.alloc (.cells #[.int .u64 a, .int .u64 ((a : Int) % 4096), .int .u64 ((a : Int) % 524300)] 24) = y := ⟨_, rfl⟩
  rw [hy] at hQ hB
  rw [hy]
  rw [hq2] at hQ
  rw [hq2]
  clear hy hq2
  have hQ' : BlkIs y q #[.int .u64 (word a 0 : Nat), .int .u64 (word a 1 : Nat), .int .u64 (word a 2 : Nat)] 24 := hQ
  clear hQ
  have HL := Lib.hid (word_lt ha)
  generalize word a = g at *
  clear ha
  go_loopw [23] (fun i wr => ∃ k : Nat, k ≤ 3 ∧ i = .int .i64 k ∧ BlkIs wr q #[.int .u64 (g 0 : Nat), .int .u64 (g 1 : Nat), .int .u64 (g 2 : Nat)] 24 ∧ Below w.heap.size w wr) (fun i _ => 3 - (intOf i).toNat)
  case atStart => exact ⟨0, by omega, rfl, hQ', hB⟩
  case round =>
    clear hQ' hB
    obtain ⟨k, hk, rfl, hQ, hB⟩ := hrel
    have hz := hB.size
    by_cases hlt : k < 3
    · have hc : wr.cell? ⟨q, k, none⟩ = some (.int .u64 (g k : Nat)) := by
        have h := hQ.cell k
        match k, hlt with
        | 0, _ => exact h
        | 1, _ => exact h
        | 2, _ => exact h
      have hv := HL.out k
      have hS := shape_any (g k) hv
      have hW := where_any (g k) hv
      generalize g k = v at *
      cases h1 : isHead v
      · rw [h1] at hS
        simp only [Bool.false_eq_true, if_false] at hS
        cases h2 : isGone v
        · rw [h2] at hW
          simp only [Bool.false_eq_true, if_false] at hW
          go_wp2_with fail
          refine (hS _).mono ?_
          rintro e V ⟨rfl, hb⟩
          replace hB := hB.trans (hb.mono hz)
          replace hQ := hQ.below hb hQ.lt
          clear hb hc
          go_wp2_with fail
          refine (hW _).mono ?_
          rintro e V2 ⟨rfl, hb⟩
          replace hB := (hB.alloc hB.size _).trans (hb.mono (by simp; have := hB.size; omega))
          replace hQ := (hQ.alloc _).below hb (hQ.alloc _).lt
          clear hb
          go_wp2
          go_roundw
          case rel => exact ⟨k + 1, by omega, by go_num, hQ, hB⟩
          case measure => simp [intOf]; omega
        · rw [h2, if_pos rfl] at hW
          obtain ⟨g1, g2⟩ : mayGo (v / 4) = true ∧ goneN (v / 4) = v := by
            unfold isGone at h2
            simpa using h2
          have hG := gone_any (v / 4) (by omega)
          rw [g1, g2] at hG
          clear g1 g2
          generalize v / 4 = n at *
          go_wp2_with fail
          refine (hS _).mono ?_
          rintro e V ⟨rfl, hb⟩
          replace hB := hB.trans (hb.mono hz)
          replace hQ := hQ.below hb hQ.lt
          clear hb hc
          go_wp2_with fail
          refine (hW _).mono ?_
          rintro e V2 ⟨rfl, hb⟩
          replace hB := (hB.alloc hB.size _).trans (hb.mono (by simp; have := hB.size; omega))
          replace hQ := (hQ.alloc _).below hb (hQ.alloc _).lt
          clear hb
          go_wp2_with fail
          refine (hG _).mono ?_
          rintro e V3 ⟨rfl, hb⟩
          replace hB := hB.trans (hb.mono hB.size)
          replace hQ := hQ.below hb hQ.lt
          clear hb
          go_wp2
          go_roundw
          case rel => exact ⟨k + 1, by omega, by go_num, hQ, hB⟩
          case measure => simp [intOf]; omega
      · rw [h1, if_pos rfl] at hS
        have h2 : isGone v = false := by
          cases h : isGone v with
          | false => rfl
          | true => have := isGone_even h; have := isHead_odd h1; omega
        rw [h2] at hW
        simp only [Bool.false_eq_true, if_false] at hW
        obtain ⟨g1, g2⟩ : shB (hp v) (hd v) (hw v) (hf v) = true ∧ headV (hp v) (hd v) (hw v) (hf v) (hr v) = v := by
          unfold isHead at h1
          simpa using h1
        have hH := head_any (hp v) (hd v) (hw v) (hf v) (hr v)
        rw [g1, g2] at hH
        clear g1 g2
        generalize hp v = p at *
        generalize hd v = d at *
        generalize hw v = b3 at *
        generalize hf v = b4 at *
        generalize hr v = b5 at *
        go_wp2_with fail
        refine (hS _).mono ?_
        rintro e V ⟨rfl, hb⟩
        replace hB := hB.trans (hb.mono hz)
        replace hQ := hQ.below hb hQ.lt
        clear hb hc
        go_wp2_with fail
        refine (hH _).mono ?_
        rintro e V2 ⟨rfl, hb⟩
        replace hB := (hB.alloc hB.size _).trans (hb.mono (by simp; have := hB.size; omega))
        replace hQ := (hQ.alloc _).below hb (hQ.alloc _).lt
        clear hb
        go_wp2_with fail
        refine (hW _).mono ?_
        rintro e V3 ⟨rfl, hb⟩
        replace hB := hB.trans (hb.mono hB.size)
        replace hQ := hQ.below hb hQ.lt
        clear hb
        go_wp2
        go_roundw
        case rel => exact ⟨k + 1, by omega, by go_num, hQ, hB⟩
        case measure => simp [intOf]; omega
    · obtain rfl : k = 3 := by omega
      go_wp2
      go_ret
      exact ⟨rfl, hB⟩

set_option maxRecDepth 100000 in
theorem lifted (os : Os) (started : os.Started) (H : Type) (enc : TypeId × Value → H) :
    ReturnsInHanded {} Try.checked os 5 .any (Rows.headerBackSpec.pre6 enc Try.prog Try.f5 Rows.headerBackRow.domain false) (Rows.headerBackSpec.post enc Try.prog Try.f5 false true false false) := by
  refine returnsInHanded_of_change (C := Try.checked) own started (by kernel_rfl) Try.func5
    (ChangeSpec.witness6 (enc := enc) (C := Try.checked) false ⟨#[], #[.int .u64 0], []⟩ 8 (by kernel_rfl) (by kernel_rfl) (by kernel_rfl) (by kernel_rfl)) ?_
  intro W base args ds gs before hval0 hW hcnd _
  have hval : ∀ (j : Nat) t v, Try.f5.params[j]? = some t → args[j]? = some v → Value.okWide Try.prog W .any base t v := hval0
  have hW' := hW
  obtain ⟨p, q, hA0, hV, rfl, hfz, hnd⟩ := hW
  have hA : DataW.TrodAll enc Try.prog W 0 (fun _ => true) true Try.f5.params.toList args.toList ds p := hA0
  rw [Try.params5] at hA hval
  obtain ⟨v0, vs0, d0, ds0, p0, q0, hargs, rfl, rfl, h0, r0⟩ := trodAll_cons hA
  obtain ⟨rfl, rfl, rfl⟩ := trodAll_nil r0
  obtain rfl : args = #[v0] := by cases args; simp_all
  obtain ⟨rfl, rfl⟩ := trodVars_none hV
  obtain ⟨a0, rfl, rfl, rfl, w0⟩ := open_int Try.underlying24 (hval 0 24 v0 rfl rfl) h0
  clear hA0 hval0
  refine (walk a0 W (bounds_u64 w0)).mono fun e W' ⟨he, bel⟩ => ?_
  subst he
  exact ⟨_, rfl, _, _, _, [], _, [], hW', trodAll_mk1 (shut_bool Try.underlying4 _), (trodAll_cons_mk (shut_int Try.underlying24 w0) trodAll_mk0), rfl, bel.frame _, fun h => by cases h⟩

theorem over : Rows.headerBackRow.holds Try.pinned (OpenSpec.ofChange Rows.headerBackSpec) :=
  OpenClaim.holds_of_wide 5 Try.f5 rfl rfl rfl rfl rfl rfl rfl ⟨rfl, rfl, rfl, rfl, rfl⟩ rfl rfl rfl rfl rfl (by kernel_rfl) Try.func5 (by kernel_rfl)
    (of_decide_eq_true (by kernel_rfl)) (by unfold Func.isWrapper; first | (rw [if_pos (by decide +kernel)]; kernel_rfl) | (rw [if_neg (by decide +kernel)]; exact ⟨rfl, rfl⟩))
    (fun os started H enc _ => lifted os started H enc)

theorem proved : Rows.HeaderBackSaid := over
#print axioms proved

end Go.Proofs.Ytmeneolboogglaa.headerBack
