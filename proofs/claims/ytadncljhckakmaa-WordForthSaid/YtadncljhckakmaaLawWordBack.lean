/- For all raw widths and numbers: Unpack undoes Pack: the law WordBack returns true and its arguments read as they did. No condition. -/
import Derived.Test.YtadncljhckakmaaWordWidths
namespace Go.Proofs.Ytadncljhckakmaa
open Go.ChangeShapes Go.WideShapes Go.ChangeAt Go.RowKit

set_option linter.unusedSimpArgs false
set_option linter.unusedVariables false

def wordVals (vs : List Nat) : List Value := vs.map fun x : Nat => Value.int .u64 (x : Int)
theorem wordVals_snoc (vs : List Nat) (x : Nat) : wordVals (vs ++ [x]) = wordVals vs ++ [.int .u64 (x : Int)] := by simp [wordVals]

/-- A row of ints that a call owns reads as a list of them. -/
theorem intsAt_own {w : World} {z n : Nat} {sv : Value} {l : List Nat} (h : w.ownsRow z 3 1 sv n (intVals l)) : l.length = n ∧ IntsAt w.heap.size w sv n (dvOf l) := by
  have hl : l.length = n := by simpa [intVals] using h.1
  refine ⟨hl, ?_⟩
  rcases h.2 with ⟨rfl, h0⟩ | ⟨g, cap, cur, rfl, hb, hg, _⟩
  · exact .inl ⟨h0, none, 0, rfl⟩
  · refine .inr ⟨g, 0, cap, rfl, (Array.getElem?_eq_some_iff.1 hg).1, fun j hj => ?_⟩
    have hc := h.cells (g := g) rfl j (.int .i64 (dvOf l j)) (by simp [intVals, dvOf, List.getD, show j < l.length from by omega])
    by_cases h0 : j = 0
    · subst h0; simpa [Addr.add] using hc
    · simpa [Addr.add, h0] using hc
theorem IntsAt.form {n : Nat} {W : World} {sv : Value} {len : Nat} {f : Nat → Int} (h : IntsAt n W sv len f) : ∃ a cap, sv = .slice a len cap ∧ ∀ k, k < len → ∃ b off, a = some ⟨b, off, none⟩ ∧ b < n ∧ W.cell? ⟨b, off + k, none⟩ = some (.int .i64 (f k)) := by
  rcases h with ⟨h0, a, cap, rfl⟩ | ⟨b, off, cap, rfl, hb, hc⟩
  · exact ⟨a, cap, by rw [h0], fun k hk => by omega⟩
  · exact ⟨_, cap, rfl, fun k hk => ⟨b, off, rfl, hb, hc k hk⟩⟩
theorem WordsAt.form {n : Nat} {W : World} {sv : Value} {len : Nat} {f : Nat → Int} (h : WordsAt n W sv len f) : ∃ a cap, sv = .slice a len cap ∧ ∀ k, k < len → ∃ b off, a = some ⟨b, off, none⟩ ∧ b < n ∧ W.cell? ⟨b, off + k, none⟩ = some (.int .u64 (f k)) := by
  rcases h with ⟨h0, a, cap, rfl⟩ | ⟨b, off, cap, rfl, hb, hc⟩
  · exact ⟨a, cap, by rw [h0], fun k hk => by omega⟩
  · exact ⟨_, cap, rfl, fun k hk => ⟨b, off, rfl, hb, hc k hk⟩⟩
/-- What the walk needs of a row of numbers that came in. -/
theorem IsRow.word {w : World} {a : Option Addr} {len cap : Nat} {zs : List Int} (hr : IsRow .u64 w a len cap zs) : len ≤ 9223372036854775807 ∧ ∀ k, k < len → ∃ b off x, a = some ⟨b, off, none⟩ ∧ b < w.heap.size ∧ w.cell? ⟨b, off + k, none⟩ = some (.int .u64 x) ∧ 0 ≤ x ∧ x ≤ 18446744073709551615 := by
  rcases hr with ⟨h0, _⟩ | ⟨b, off, rfl, hb, hl, hm, hz, hc, hw⟩
  · exact ⟨by omega, fun k hk => by omega⟩
  · refine ⟨by unfold maxLen at hm; omega, fun k hk => ?_⟩
    have hkz : k < zs.length := by omega
    have hg : zs.getD k 0 ∈ zs := by rw [List.getD_eq_getElem?_getD, List.getElem?_eq_getElem hkz]; exact List.getElem_mem hkz
    have := bounds_u64 (hw _ hg)
    exact ⟨b, off, _, rfl, hb, hc k hkz, this.1, this.2⟩

/-- 2 to the power of a width. -/
def pow2 (d : Int) : Int := ((2 ^ d.toNat : Nat) : Int)
theorem pow2_val (d : Int) (h0 : 0 ≤ d) (h1 : d ≤ 63) : IntKind.u64.wrap (2 ^ d.toNat) = pow2 d := by
  unfold pow2
  have e : (2 : Int) ^ d.toNat = ((2 ^ d.toNat : Nat) : Int) := by simp
  have hp : 2 ^ d.toNat ≤ 2 ^ 63 := Nat.pow_le_pow_right (by omega) (by omega)
  rw [e, IntKind.wrap_u64]
  have hp63 : (2 : Nat) ^ 63 = 9223372036854775808 := by decide
  clear e
  generalize 2 ^ d.toNat = q at *
  exact Int.emod_eq_of_lt (by omega) (by omega)
theorem pow2_pos (d : Int) : 1 ≤ pow2 d := by
  have := Nat.two_pow_pos d.toNat
  unfold pow2
  omega
theorem pow2_le (d : Int) (h1 : d ≤ 63) : pow2 d ≤ 9223372036854775808 := by
  have hp : 2 ^ d.toNat ≤ 2 ^ 63 := Nat.pow_le_pow_right (by omega) (by omega)
  unfold pow2
  omega

theorem fits_snoc {ds vs : List Nat} {k x : Nat} (h : ∀ j, vs.getD j 0 < 2 ^ ds.getD j 0) (hl : vs.length = k) (hx : x < 2 ^ ds.getD k 0) : ∀ j, (vs ++ [x]).getD j 0 < 2 ^ ds.getD j 0 := by
  intro j
  by_cases hj : j < k
  · have := h j
    rw [List.getD_eq_getElem?_getD, List.getElem?_append_left (by omega), ← List.getD_eq_getElem?_getD]
    exact this
  · by_cases e : j = k
    · subst e
      rw [List.getD_eq_getElem?_getD, List.getElem?_append_right (by omega), hl, Nat.sub_self]
      simpa using hx
    · rw [List.getD_eq_getElem?_getD, List.getElem?_eq_none (by simp; omega)]
      exact Nat.two_pow_pos _

namespace wordBack

set_option maxRecDepth 100000 in
set_option maxHeartbeats 2000000 in
theorem walk (a0 : Option Addr) (len0 cap0 : Nat) (z0 : List Int) (a1 : Option Addr) (len1 cap1 : Nat) (z1 : List Int) (w : World) (w0 : IsRow .i64 w a0 len0 cap0 z0) (w1 : IsRow .u64 w a1 len1 cap1 z1) :
    Calls Try.prog 4 #[.slice a0 len0 cap0, .slice a1 len1 cap1] w fun e w' => e = .returned (.bool true) ∧ Below w.heap.size w w' := by
  obtain ⟨i0, hi, hz0, hz1, hz2⟩ := info_parts infoU64
  obtain ⟨hmax, hl1⟩ := w1.word
  have Hl := Lib.hid hl1
  clear hl1 w1
  go_enter Try.func4, Try.ntmps4
  go_wp2_with fail
  refine (awake_any _).mono ?_
  rintro e x1 ⟨rfl, hb1⟩
  have hw0 : IsRow .i64 x1 a0 len0 cap0 z0 := w0.imp id fun ⟨b, off, e, hb, h1, h2, h3, hc, h4⟩ => ⟨b, off, e, Nat.lt_of_lt_of_le hb hb1.size, h1, h2, h3, fun i hi => (hb1.cell (p := ⟨b, off + i, none⟩) hb).trans (hc i hi), h4⟩
  clear w0
  go_wp2_with fail
  refine (widths_any _ _ _ _ _ hw0).mono ?_
  rintro e x2 ⟨sv, ds, rfl, hown, hwide, hb2⟩
  obtain ⟨-, hints⟩ := intsAt_own hown
  obtain ⟨am, cm, rfl, hform⟩ := hints.form
  have hB2 := hb1.trans (hb2.mono hb1.size)
  have hlen := hwide.length
  have Hw := Lib.hid hwide
  have Hi := Lib.hid hints
  have Hf := Lib.hid hform
  clear hwide hints hform hown hb1 hb2 hw0
  go_wp2
  go_loopw [7, 8] (fun v i wr => ∃ (k : Nat) (vs : List Nat), k ≤ ds.length ∧ i = .int .i64 k ∧ vs.length = k ∧ (∀ j, vs.getD j 0 < 2 ^ ds.getD j 0) ∧ wr.ownsRow x2.heap.size 22 1 v vs.length (wordVals vs) ∧ Below x2.heap.size x2 wr)
    (fun _ i _ => ds.length - (intOf i).toNat)
  case atStart => exact ⟨0, [], Nat.zero_le _, rfl, rfl, fun j => by simp [List.getD]; exact Nat.two_pow_pos _, World.ownsRow_nil _ _ _ _, Below.refl _ _⟩
  case round =>
    obtain ⟨k, vs, hk, rfl, hvl, hfit, hown, hB⟩ := hrel
    have Hvl := Lib.hid hvl
    have Hfit := Lib.hid hfit
    clear hvl hfit
    by_cases hlt : k < ds.length
    · obtain ⟨bm, om, rfl, hbm, hcm⟩ := Hf.out k hlt
      have hcm1 : wr.cell? ⟨bm, om + k, none⟩ = some (.int .i64 (dvOf ds k)) := (hB.cell (p := ⟨bm, om + k, none⟩) hbm).trans hcm
      obtain ⟨d1, d2⟩ : 1 ≤ dvOf ds k ∧ dvOf ds k ≤ 20 := by
        have := Hw.out.each (ds.getD k 0) (by simp [List.getD, hlt])
        unfold dvOf
        omega
      have hp := pow2_val (dvOf ds k) (by omega) (by omega)
      have hp1 := pow2_pos (dvOf ds k)
      have hp2 := pow2_le (dvOf ds k) (by omega)
      clear hcm
      by_cases hin : k < len1
      · obtain ⟨bl, ol, x, rfl, hbl, hcl, x0, x1'⟩ := Hl.out k hin
        have hcl1 : wr.cell? ⟨bl, ol + k, none⟩ = some (.int .u64 x) := (hB.cell (p := ⟨bl, ol + k, none⟩) (by show bl < _; have := hB2.size; omega)).trans ((hB2.cell (p := ⟨bl, ol + k, none⟩) hbl).trans hcl)
        clear hcl
        have hy0 := Int.emod_nonneg x (show pow2 (dvOf ds k) ≠ 0 by omega)
        have hy1 := Int.emod_lt_of_pos x (show 0 < pow2 (dvOf ds k) by omega)
        go_wp2
        go_quiet (fail)
        generalize hy : x % pow2 (dvOf ds k) = y at hy0 hy1 ⊢
        obtain ⟨y, rfl⟩ : ∃ j : Nat, y = j := ⟨y.toNat, by omega⟩
        have hyf : y < 2 ^ ds.getD k 0 := by unfold pow2 dvOf at hy1; rw [Int.toNat_natCast] at hy1; omega
        have hB1 := below_drewN hB nq
        have hown1 : (wr.drewN nq).ownsRow x2.heap.size 22 1 u7 vs.length (wordVals vs) := hown
        obtain ⟨wq, hwq⟩ : ∃ wq, wr.drewN nq = wq := ⟨_, rfl⟩
        rw [hwq] at hB1 hown1 ⊢
        clear hwq hB hown hcl1 hcm1 hy hp
        have hvk := Hvl.out
        have Hvk := Lib.hid hvk
        have hv64 : vs.length ≤ 64 := by omega
        clear hvk
        go_wp2_with (at_builtin; refine wpList_append_own _ rfl _ _ 34 rfl x2.heap.size 22 i0 (.int .u64 0) 1 8 Try.underlying34 hi hz0 hz1 hz2 rfl (by decide) u7 _ _ rfl (hown1.alloc _) ⟨wq.heap.size, 0, none⟩ 1 1 [.int .u64 (y : Int)] rfl rfl (cell_one_new _ _ _) (by simp [Value.oneCell']) (by unfold maxLen; omega) (by omega) (by have := hB1.size; simp; omega) ?_; intro v' wz hown' hgrow _)
        have hBz := (hB1.alloc hB1.size (.cells #[.int .u64 (y : Int)] 22)).grown hgrow (by have := hB1.size; simp; omega) (fun g e => (own_block hown1 g e.symm.symm).1)
        rw [← wordVals_snoc] at hown'
        go_roundw
        case rel => exact ⟨k + 1, vs ++ [y], by omega, by go_num, by rw [List.length_append, Hvl.out]; rfl, fits_snoc Hfit.out Hvl.out hyf, by rw [List.length_append]; exact hown', hBz⟩
        case measure => simp [intOf]; omega
      · have hyf : 0 < 2 ^ ds.getD k 0 := Nat.two_pow_pos _
        have hvk := Hvl.out
        have hv64 : vs.length ≤ 64 := by omega
        clear hvk
        go_wp2_with (at_builtin; refine wpList_append_own _ rfl _ _ 34 rfl x2.heap.size 22 i0 (.int .u64 0) 1 8 Try.underlying34 hi hz0 hz1 hz2 rfl (by decide) u7 _ _ rfl (hown.alloc _) ⟨wr.heap.size, 0, none⟩ 1 1 [.int .u64 0] rfl rfl (cell_one_new _ _ _) (by simp [Value.oneCell']) (by unfold maxLen; omega) (by omega) (by have := hB.size; simp; omega) ?_; intro v' wz hown' hgrow _)
        have hBz := (hB.alloc hB.size (.cells #[.int .u64 0] 22)).grown hgrow (by have := hB.size; simp; omega) (fun g e => (own_block hown g e.symm.symm).1)
        rw [show (0 : Int) = ((0 : Nat) : Int) from rfl, ← wordVals_snoc] at hown'
        go_roundw
        case rel => exact ⟨k + 1, vs ++ [0], by omega, by go_num, by rw [List.length_append, Hvl.out]; rfl, fits_snoc Hfit.out Hvl.out hyf, by rw [List.length_append]; exact hown', hBz⟩
        case measure => simp [intOf]; omega
    · obtain rfl : k = ds.length := by omega
      obtain ⟨-, hwords⟩ := wordsAt_own hown
      obtain ⟨av, cv, rfl, hvform⟩ := hwords.form
      have hvl := Hvl.out
      rw [hvl] at hwords
      have Hvw := Lib.hid hwords
      have Hvf := Lib.hid hvform
      have hmi := (Hi.out.below hB).mono hB.size
      have Hmi := Lib.hid hmi
      have hBw : Below w.heap.size w wr := hB2.trans (hB.mono hB2.size)
      clear hvform hwords hmi hown
      have h1 : ∀ d ∈ ds, 1 ≤ d := fun d hd => (Hw.out.each d hd).1
      have Hacc := Lib.hid (Wd.acc_fits ds vs Hw.out.all Hfit.out)
      have Hnum := Lib.hid (Wd.nums_acc ds vs Hw.out.all Hfit.out hvl)
      have Haccb := Wd.acc_lt ds vs (List.range ds.length) Hw.out.all Hfit.out
      have H1 := Lib.hid h1
      have hz := hB.size
      clear h1
      go_wp2_with fail
      refine (pack_any ds vs Hw.out.all H1.out Hfit Hvl hlen _ _ _ _ _ Hmi.out Hvw.out).mono ?_
      rintro e x3 ⟨rfl, hb3⟩
      generalize Wd.acc ds vs (List.range ds.length) = A at Hacc Hnum Haccb ⊢
      have Hmi3 := Lib.hid ((Hmi.out.below hb3).mono hb3.size)
      have Hvw3 := Lib.hid ((Hvw.out.below hb3).mono hb3.size)
      have hB3 := hBw.trans (hb3.mono hBw.size)
      clear hb3 Hmi Hvw
      go_wp2_with fail
      refine (unpack_any ds A Haccb Hw.out.all H1.out hlen _ _ _ Hmi3.out).mono ?_
      rintro e x4 ⟨s4, rfl, hok, -, hb4⟩
      rw [decide_eq_true Hacc.out]
      have hown4 := hok Hacc.out
      rw [Hnum.out] at hown4
      obtain ⟨-, hw4⟩ := wordsAt_own hown4
      have Hw4 := Lib.hid hw4
      have Hvw4 := Lib.hid ((Hvw3.out.below hb4).mono hb4.size)
      have hB4 := hB3.trans (hb4.mono hB3.size)
      clear hok hown4 hw4 hb4 Hvw3 Hmi3 hvl
      go_wp2_with fail
      refine (same_yes ds.length (by omega) _ _ (dvOf vs) _ Hw4.out Hvw4.out).mono ?_
      rintro e x5 ⟨rfl, hb5⟩
      have hB5 := hB4.trans (hb5.mono hB4.size)
      go_wp2
      go_ret
      exact ⟨rfl, hB5⟩

set_option maxRecDepth 100000 in
theorem lifted (os : Os) (started : os.Started) (H : Type) (enc : TypeId × Value → H) :
    ReturnsInHanded {} Try.checked os 4 .any (Rows.wordBackSpec.pre6 enc Try.prog Try.f4 Rows.wordBackRow.domain false) (Rows.wordBackSpec.post enc Try.prog Try.f4 false true false false) := by
  refine returnsInHanded_of_change (C := Try.checked) own started (by kernel_rfl) Try.func4
    (ChangeSpec.witness6 (enc := enc) (C := Try.checked) false ⟨#[], #[.slice none 0 0, .slice none 0 0], []⟩ 8 (by kernel_rfl) (by kernel_rfl) (by kernel_rfl) (by kernel_rfl)) ?_
  intro W base args ds gs before hval0 hW hcnd _
  have hval : ∀ (j : Nat) t v, Try.f4.params[j]? = some t → args[j]? = some v → Value.okWide Try.prog W .any base t v := hval0
  have hW' := hW
  obtain ⟨p, q, hA0, hV, rfl, hfz, hnd⟩ := hW
  have hA : DataW.TrodAll enc Try.prog W 0 (fun _ => true) true Try.f4.params.toList args.toList ds p := hA0
  rw [Try.params4] at hA hval
  obtain ⟨v0, vs0, d0, ds0, p0, q0, hargs, rfl, rfl, h0, r0⟩ := trodAll_cons hA
  obtain ⟨v1, vs1, d1, ds1, p1, q1, rfl, rfl, rfl, h1, r1⟩ := trodAll_cons r0
  obtain ⟨rfl, rfl, rfl⟩ := trodAll_nil r1
  obtain rfl : args = #[v0, v1] := by cases args; simp_all
  obtain ⟨rfl, rfl⟩ := trodVars_none hV
  obtain ⟨a0, len0, cap0, rfl⟩ := okWide_slice Try.underlying33 (hval 0 33 v0 rfl rfl)
  have k0 := h0
  have lt0 : ∀ x ∈ p0, x.block < W.heap.size := by obtain ⟨m, hm⟩ := k0; exact DataW.trod_lt m _ _ _ hm
  obtain ⟨z0, w0⟩ := open_row Try.underlying33 Try.underlying3 (by kernel_rfl) h0
  obtain ⟨a1, len1, cap1, rfl⟩ := okWide_slice Try.underlying34 (hval 1 34 v1 rfl rfl)
  have k1 := h1
  have lt1 : ∀ x ∈ p1, x.block < W.heap.size := by obtain ⟨m, hm⟩ := k1; exact DataW.trod_lt m _ _ _ hm
  obtain ⟨z1, w1⟩ := open_row Try.underlying34 Try.underlying22 (by kernel_rfl) h1
  clear hA0 hval0
  refine (walk a0 len0 cap0 z0 a1 len1 cap1 z1 W w0 w1).mono fun e W' ⟨he, bel⟩ => ?_
  subst he
  exact ⟨_, rfl, _, _, _, [], _, [], hW', trodAll_mk1 (shut_bool Try.underlying4 _), (trodAll_cons_mk (Below.trod laidOut (by kernel_rfl) (of_decide_eq_true (by kernel_rfl)) k0 bel lt0) (trodAll_cons_mk (Below.trod laidOut (by kernel_rfl) (of_decide_eq_true (by kernel_rfl)) k1 bel lt1) trodAll_mk0)), rfl, bel.frame _, fun h => by cases h⟩

theorem over : Rows.wordBackRow.holds Try.pinned (OpenSpec.ofChange Rows.wordBackSpec) :=
  OpenClaim.holds_of_wide 4 Try.f4 rfl rfl rfl rfl rfl rfl rfl ⟨rfl, rfl, rfl, rfl, rfl⟩ rfl rfl rfl rfl rfl (by kernel_rfl) Try.func4 (by kernel_rfl)
    (of_decide_eq_true (by kernel_rfl)) (by unfold Func.isWrapper; first | (rw [if_pos (by decide +kernel)]; kernel_rfl) | (rw [if_neg (by decide +kernel)]; exact ⟨rfl, rfl⟩))
    (fun os started H enc _ => lifted os started H enc)

theorem proved : Rows.WordBackSaid := over
#print axioms proved

end wordBack
end Go.Proofs.Ytadncljhckakmaa
