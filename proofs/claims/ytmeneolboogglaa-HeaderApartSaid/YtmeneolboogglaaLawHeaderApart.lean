/- For every two three numbers and a bool: unlike shapes have unlike heads, and a freed one another one: the law HeaderApart returns true and its arguments read as they did. No condition. -/
import Derived.Test.YtmeneolboogglaaHeadLaw
namespace Go.Proofs.Ytmeneolboogglaa.headerApart
open Go.ChangeShapes Go.WideShapes Go.ChangeAt Go.RowKit
set_option linter.unusedVariables false
set_option linter.unusedSimpArgs false

theorem headN_inj {p d p' d' : Nat} {wk fn wk' fn' fr : Bool} (hp : p ≤ 8) (hd : d ≤ 8) (hp' : p' ≤ 8) (hd' : d' ≤ 8) (h : headN p d wk fn fr = headN p' d' wk' fn' fr) : p = p' ∧ d = d' ∧ wk = wk' ∧ fn = fn' := by
  unfold headN at h
  have b : ∀ b : Bool, b.toNat < 2 := by decide
  have h1 := b wk; have h2 := b wk'; have h3 := b fn; have h4 := b fn'
  have e : wk.toNat = wk'.toNat ∧ fn.toNat = fn'.toNat := by omega
  refine ⟨by omega, by omega, ?_, ?_⟩
  · cases wk <;> cases wk' <;> first | rfl | exact absurd e.1 (by decide)
  · cases fn <;> cases fn' <;> first | rfl | exact absurd e.2 (by decide)
theorem headN_freed (p d : Nat) (wk fn fr : Bool) : headN p d wk fn fr ≠ headN p d wk fn (!fr) := by
  unfold headN
  cases fr <;> simp <;> omega

/-- Three numbers that lie in block k, behind w. -/
abbrev At3 (w x : World) (k : Nat) (v0 v1 v2 : Value) : Prop :=
  x.cell? ⟨k, 0, none⟩ = some v0 ∧ x.cell? ⟨k, 1, none⟩ = some v1 ∧ x.cell? ⟨k, 2, none⟩ = some v2 ∧ k < x.heap.size
theorem keep3 {w x y : World} {k : Nat} {v0 v1 v2 : Value} (h : At3 w x k v0 v1 v2) (hb : Below x.heap.size x y) : At3 w y k v0 v1 v2 :=
  ⟨(hb.cell (p := ⟨k, 0, none⟩) h.2.2.2).trans h.1, (hb.cell (p := ⟨k, 1, none⟩) h.2.2.2).trans h.2.1, (hb.cell (p := ⟨k, 2, none⟩) h.2.2.2).trans h.2.2.1, Nat.lt_of_lt_of_le h.2.2.2 hb.size⟩

set_option maxRecDepth 100000 in
set_option maxHeartbeats 4000000 in
theorem walk (a0x0 a0x1 a0x2 a1x0 a1x1 a1x2 : Int) (fr : Bool) (w : World) (w0 : -9223372036854775808 ≤ a0x0 ∧ a0x0 ≤ 9223372036854775807) (w1 : -9223372036854775808 ≤ a0x1 ∧ a0x1 ≤ 9223372036854775807) (w2 : -9223372036854775808 ≤ a0x2 ∧ a0x2 ≤ 9223372036854775807)
    (w3 : -9223372036854775808 ≤ a1x0 ∧ a1x0 ≤ 9223372036854775807) (w4 : -9223372036854775808 ≤ a1x1 ∧ a1x1 ≤ 9223372036854775807) (w5 : -9223372036854775808 ≤ a1x2 ∧ a1x2 ≤ 9223372036854775807) :
    Calls Try.prog 6 #[.agg #[.int .i64 a0x0, .int .i64 a0x1, .int .i64 a0x2], .agg #[.int .i64 a1x0, .int .i64 a1x1, .int .i64 a1x2], .bool fr] w fun e w' => e = .returned (.bool true) ∧ Below w.heap.size w w' := by
  go_enter Try.func6, Try.ntmps6
  go_wp2_with fail
  refine (awake_yes _).mono ?_
  rintro e x ⟨rfl, hb⟩
  have h0 : At3 w x w.heap.size (.int .i64 a0x0) (.int .i64 a0x1) (.int .i64 a0x2) := keep3 (w := w) ⟨by simp, by simp, by simp, by simp; omega⟩ hb
  have h1 : At3 w x (w.heap.size + 1) (.int .i64 a1x0) (.int .i64 a1x1) (.int .i64 a1x2) := keep3 (w := w) ⟨by simp, by simp, by simp, by simp⟩ hb
  have hB := (((Below.refl _ w).alloc (Nat.le_refl _) _).alloc (by simp) _).trans (hb.mono (by simp; omega))
  clear hb
  obtain ⟨c0, c1, c2, l0⟩ := h0
  go_wp2_with fail
  refine (fit_sh _ _ _ _ w0 w1 w2).mono ?_
  rintro e x2 ⟨p, d, wk, fn, hp, hd, hs, rfl, hb⟩
  replace h1 := keep3 h1 hb
  replace hB := hB.trans (hb.mono hB.size)
  clear hb c0 c1 c2 l0
  replace h1 := keep3 h1 ((Below.refl _ x2).alloc (Nat.le_refl _) (.cells #[.int .i64 p, .int .i64 d, .bool wk, .bool fn] 30))
  have hS : ShAt w (x2.alloc (.cells #[.int .i64 p, .int .i64 d, .bool wk, .bool fn] 30)) x2.heap.size p d wk fn :=
    ⟨by simp, by simp, by simp, by simp, by have := hB.size; simp; omega, by simp, hB.alloc hB.size _⟩
  obtain ⟨c0, c1, c2, l0⟩ := h1
  go_wp2_with fail
  refine (fit_sh _ _ _ _ w3 w4 w5).mono ?_
  rintro e x3 ⟨p', d', wk', fn', hp', hd', hs', rfl, hb⟩
  replace hS := keepSh hS hb
  clear hb c0 c1 c2 l0 hB
  obtain ⟨q, hq⟩ : ∃ q, x2.heap.size = q := ⟨_, rfl⟩
  rw [hq] at hS
  rw [hq]
  clear hq
  have hT : ShAt w (x3.alloc (.cells #[.int .i64 p', .int .i64 d', .bool wk', .bool fn'] 30)) x3.heap.size p' d' wk' fn' :=
    ⟨by simp, by simp, by simp, by simp, by have := hS.2.2.2.2.1; simp; omega, by simp, hS.2.2.2.2.2.2.alloc hS.2.2.2.2.1 _⟩
  replace hS := keepSh hS ((Below.refl _ x3).alloc (Nat.le_refl _) (.cells #[.int .i64 p', .int .i64 d', .bool wk', .bool fn'] 30))
  have hH := head_yes p d wk fn fr hs hp hd
  have hH' := head_yes p' d' wk' fn' fr hs' hp' hd'
  have hN := head_yes p d wk fn (!fr) hs hp hd
  have nf := headN_freed p d wk fn fr
  have ni := headN_inj (wk := wk) (fn := fn) (wk' := wk') (fn' := fn') (fr := fr) hp hd hp' hd'
  obtain ⟨q', hq⟩ : ∃ q, x3.heap.size = q := ⟨_, rfl⟩
  have hsb : shV (p : Int) d wk fn = Value.agg #[.int .i64 p, .int .i64 d, .bool wk, .bool fn] := rfl
  clear hs hs' hsb
  obtain ⟨c0, c1, c2, c3, s1, k1, hB⟩ := hS
  go_wp2_with fail
  have key : ((headN p d wk fn fr : Nat) : Int) != ((headN p d wk fn (!fr) : Nat) : Int) := by simp; omega
  obtain ⟨y, hy⟩ : ∃ y, x3.alloc (.cells #[.int .i64 p', .int .i64 d', .bool wk', .bool fn'] 30) = y := ⟨_, rfl⟩
  rw [hq] at hT
  rw [hy] at hT c0 c1 c2 c3 s1 k1 hB
  rw [hy]
  clear hy hq
  refine (hH _).mono ?_
  rintro e x4 ⟨rfl, hb⟩
  have hS := keepSh ⟨c0, c1, c2, c3, s1, k1, hB⟩ hb
  replace hT := keepSh hT hb
  clear hb c0 c1 c2 c3 s1 k1 hB
  obtain ⟨t0, t1, t2, t3, s1, k1, hB⟩ := hT
  go_wp2_with fail
  refine (hH' _).mono ?_
  rintro e x5 ⟨rfl, hb⟩
  replace hS := keepSh hS hb
  have hT := keepSh ⟨t0, t1, t2, t3, s1, k1, hB⟩ hb
  clear hb t0 t1 t2 t3 s1 k1 hB
  obtain ⟨c0, c1, c2, c3, s1, k1, hB⟩ := hS
  go_wp2_with fail
  refine (hN _).mono ?_
  rintro e x6 ⟨rfl, hb⟩
  have hS := keepSh ⟨c0, c1, c2, c3, s1, k1, hB⟩ hb
  replace hT := keepSh hT hb
  clear hb c0 c1 c2 c3 s1 k1 hB hH hH' hN nf
  obtain ⟨c0, c1, c2, c3, s1, k1, hB⟩ := hS
  obtain ⟨t0, t1, t2, t3, _, k2, _⟩ := hT
  have nb : ∀ a b : Bool, a ≠ b → (a = true ∧ b = false) ∨ (a = false ∧ b = true) := by decide
  by_cases e1 : p = p'
  · subst e1
    by_cases e2 : d = d'
    · subst e2
      by_cases e3 : wk = wk'
      · subst e3
        by_cases e4 : fn = fn'
        · subst e4
          clear ni nb
          generalize headN p d wk fn (!fr) = v3 at *
          generalize headN p d wk fn fr = v1 at *
          go_wp2
          go_ret
          exact ⟨by simp [key], hB⟩
        · have nv : (((headN p d wk fn fr : Nat) : Int) == ((headN p d wk fn' fr : Nat) : Int)) = false := by
            simp; intro h; exact e4 (ni (by omega)).2.2.2
          clear ni
          generalize headN p d wk fn (!fr) = v3 at *
          generalize headN p d wk fn fr = v1 at *
          generalize headN p d wk fn' fr = v2 at *
          rcases nb _ _ e4 with ⟨rfl, rfl⟩ | ⟨rfl, rfl⟩
          all_goals
            clear e4 nb
            go_wp2
            go_ret
            exact ⟨by simp [key], hB⟩
      · have nv : (((headN p d wk fn fr : Nat) : Int) == ((headN p d wk' fn' fr : Nat) : Int)) = false := by
          simp; intro h; exact e3 (ni (by omega)).2.2.1
        clear ni
        generalize headN p d wk fn (!fr) = v3 at *
        generalize headN p d wk fn fr = v1 at *
        generalize headN p d wk' fn' fr = v2 at *
        rcases nb _ _ e3 with ⟨rfl, rfl⟩ | ⟨rfl, rfl⟩
        all_goals
          clear e3 nb
          go_wp2
          go_ret
          exact ⟨by simp [key], hB⟩
    · have nv : (((headN p d wk fn fr : Nat) : Int) == ((headN p d' wk' fn' fr : Nat) : Int)) = false := by
        simp; intro h; exact e2 (ni (by omega)).2.1
      have ne : ((d : Int) = (d' : Int)) = False := by simp; omega
      clear ni nb
      generalize headN p d wk fn (!fr) = v3 at *
      generalize headN p d wk fn fr = v1 at *
      generalize headN p d' wk' fn' fr = v2 at *
      go_wp2
      all_goals
        go_ret
        exact ⟨by simp [key], hB⟩
  · have nv : (((headN p d wk fn fr : Nat) : Int) == ((headN p' d' wk' fn' fr : Nat) : Int)) = false := by
      simp; intro h; exact e1 (ni (by omega)).1
    have ne : ((p : Int) = (p' : Int)) = False := by simp; omega
    clear ni nb
    generalize headN p d wk fn (!fr) = v3 at *
    generalize headN p d wk fn fr = v1 at *
    generalize headN p' d' wk' fn' fr = v2 at *
    go_wp2
    all_goals
      go_ret
      exact ⟨by simp [key], hB⟩

set_option maxRecDepth 100000 in
theorem lifted (os : Os) (started : os.Started) (H : Type) (enc : TypeId × Value → H) :
    ReturnsInHanded {} Try.checked os 6 .any (Rows.headerApartSpec.pre6 enc Try.prog Try.f6 Rows.headerApartRow.domain false) (Rows.headerApartSpec.post enc Try.prog Try.f6 false true false false) := by
  refine returnsInHanded_of_change (C := Try.checked) own started (by kernel_rfl) Try.func6
    (ChangeSpec.witness6 (enc := enc) (C := Try.checked) false ⟨#[], #[.agg #[.int .i64 0, .int .i64 0, .int .i64 0], .agg #[.int .i64 0, .int .i64 0, .int .i64 0], .bool false], []⟩ 8 (by kernel_rfl) (by kernel_rfl) (by kernel_rfl) (by kernel_rfl)) ?_
  intro W base args ds gs before hval0 hW hcnd _
  have hval : ∀ (j : Nat) t v, Try.f6.params[j]? = some t → args[j]? = some v → Value.okWide Try.prog W .any base t v := hval0
  have hW' := hW
  obtain ⟨p, q, hA0, hV, rfl, hfz, hnd⟩ := hW
  have hA : DataW.TrodAll enc Try.prog W 0 (fun _ => true) true Try.f6.params.toList args.toList ds p := hA0
  rw [Try.params6] at hA hval
  obtain ⟨v0, vs0, d0, ds0, p0, q0, hargs, rfl, rfl, h0, r0⟩ := trodAll_cons hA
  obtain ⟨v1, vs1, d1, ds1, p1, q1, rfl, rfl, rfl, h1, r1⟩ := trodAll_cons r0
  obtain ⟨v2, vs2, d2, ds2, p2, q2, rfl, rfl, rfl, h2, r2⟩ := trodAll_cons r1
  obtain ⟨rfl, rfl, rfl⟩ := trodAll_nil r2
  obtain rfl : args = #[v0, v1, v2] := by cases args; simp_all
  obtain ⟨rfl, rfl⟩ := trodVars_none hV
  have k0 := h0
  have lt0 : ∀ x ∈ p0, x.block < W.heap.size := by obtain ⟨m, hm⟩ := k0; exact DataW.trod_lt m _ _ _ hm
  have ce0 : Try.prog.cellsOf 3 = 1 := by kernel_rfl
  have cc0 : Try.prog.cellsOf 40 = 3 := by kernel_rfl
  have x0 := open_ints_array Try.underlying40 Try.underlying3 ce0 cc0 (hval 0 40 v0 rfl rfl) h0
  obtain ⟨z0, hl0, hv0, hz0⟩ := x0
  subst hv0
  have y0 := list3 hl0
  obtain ⟨a0x0, a0x1, a0x2, hy0⟩ := y0
  subst hy0
  have w0x0 := bounds_i64 (hz0 a0x0 (by simp))
  have w0x1 := bounds_i64 (hz0 a0x1 (by simp))
  have w0x2 := bounds_i64 (hz0 a0x2 (by simp))
  have k1 := h1
  have lt1 : ∀ x ∈ p1, x.block < W.heap.size := by obtain ⟨m, hm⟩ := k1; exact DataW.trod_lt m _ _ _ hm
  have ce1 : Try.prog.cellsOf 3 = 1 := by kernel_rfl
  have cc1 : Try.prog.cellsOf 40 = 3 := by kernel_rfl
  have x1 := open_ints_array Try.underlying40 Try.underlying3 ce1 cc1 (hval 1 40 v1 rfl rfl) h1
  obtain ⟨z1, hl1, hv1, hz1⟩ := x1
  subst hv1
  have y1 := list3 hl1
  obtain ⟨a1x0, a1x1, a1x2, hy1⟩ := y1
  subst hy1
  have w1x0 := bounds_i64 (hz1 a1x0 (by simp))
  have w1x1 := bounds_i64 (hz1 a1x1 (by simp))
  have w1x2 := bounds_i64 (hz1 a1x2 (by simp))
  obtain ⟨a2, rfl, rfl, rfl⟩ := open_bool Try.underlying4 (hval 2 4 v2 rfl rfl) h2
  clear hA0 hval0
  refine (walk a0x0 a0x1 a0x2 a1x0 a1x1 a1x2 a2 W w0x0 w0x1 w0x2 w1x0 w1x1 w1x2).mono fun e W' ⟨he, bel⟩ => ?_
  subst he
  exact ⟨_, rfl, _, _, _, [], _, [], hW', trodAll_mk1 (shut_bool Try.underlying4 _), (trodAll_cons_mk (Below.trod laidOut (by kernel_rfl) (of_decide_eq_true (by kernel_rfl)) k0 bel lt0) (trodAll_cons_mk (Below.trod laidOut (by kernel_rfl) (of_decide_eq_true (by kernel_rfl)) k1 bel lt1) (trodAll_cons_mk (shut_bool Try.underlying4 _) trodAll_mk0))), rfl, bel.frame _, fun h => by cases h⟩

theorem over : Rows.headerApartRow.holds Try.pinned (OpenSpec.ofChange Rows.headerApartSpec) :=
  OpenClaim.holds_of_wide 6 Try.f6 rfl rfl rfl rfl rfl rfl rfl ⟨rfl, rfl, rfl, rfl, rfl⟩ rfl rfl rfl rfl rfl (by kernel_rfl) Try.func6 (by kernel_rfl)
    (of_decide_eq_true (by kernel_rfl)) (by unfold Func.isWrapper; first | (rw [if_pos (by decide +kernel)]; kernel_rfl) | (rw [if_neg (by decide +kernel)]; exact ⟨rfl, rfl⟩))
    (fun os started H enc _ => lifted os started H enc)

theorem proved : Rows.HeaderApartSaid := over
#print axioms proved

end Go.Proofs.Ytmeneolboogglaa.headerApart
