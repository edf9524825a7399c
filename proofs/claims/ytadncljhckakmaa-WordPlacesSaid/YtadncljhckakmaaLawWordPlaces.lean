/- For all raw widths, which one, and any number: a number packed alone stands where its part is: the law WordPlaces returns true and its arguments read as they did. No condition. -/
import Derived.Test.YtadncljhckakmaaLawWordBack
import Derived.Laws.MakeOwn
namespace Go.Proofs.Ytadncljhckakmaa
open Go.ChangeShapes Go.WideShapes Go.ChangeAt Go.RowKit

set_option linter.unusedSimpArgs false
set_option linter.unusedVariables false

theorem run_make_rowN {P : Program} (t e : TypeId) (i : TypeInfo) (z : Value) (ht : P.underlying t = some (.slice e)) (hi : P.info? e = some i) (hz : i.zero = some z)
    (kl kc : IntKind) (n c : Nat) (hnc : n ≤ c) (hbytes : i.bytes * c ≤ 281474976710656) (h63 : c ≤ 9223372036854775807) (w : World) :
    (Instr.makeSlice t (.int kl (n : Int)) (.int kc (c : Int))).run P w = .ok (.slice (some ⟨w.heap.size, 0, none⟩) n c) (w.alloc (.cells (madeCells z.cells (c * i.size)) e)) := by
  have hb : (i.bytes : Int) * (c : Int) ≤ 281474976710656 := by
    have h : ((i.bytes * c : Nat) : Int) ≤ 281474976710656 := by omega
    rwa [Int.natCast_mul] at h
  have hr := run_make (P := P) w t e i z ht hi hz kl kc n c (by omega) (by omega) hb (by omega)
  simp only [Int.toNat_natCast] at hr
  exact hr

/-- Nought in each place but one. -/
def alone (n k x : Nat) : List Nat := (List.replicate n 0).set k x
theorem alone_length (n k x : Nat) : (alone n k x).length = n := by simp [alone]
theorem alone_at {n k x : Nat} (h : k < n) : (alone n k x).getD k 0 = x := by simp [alone, List.getD, h]
theorem alone_other {n k x j : Nat} (h : j ≠ k) : (alone n k x).getD j 0 = 0 := by
  unfold alone
  rw [List.getD_eq_getElem?_getD, List.getElem?_set_ne (by omega)]
  by_cases hj : j < n
  · simp [hj]
  · simp [hj]
theorem alone_fits {ds : List Nat} {k x : Nat} (h : k < ds.length) (hx : x < 2 ^ ds.getD k 0) : ∀ j, (alone ds.length k x).getD j 0 < 2 ^ ds.getD j 0 := by
  intro j
  by_cases e : j = k
  · subst e; rw [alone_at h]; exact hx
  · rw [alone_other e]; exact Nat.two_pow_pos _

/-- A new row of noughts, one of them set. -/
theorem made_alone (w : World) (n k x : Nat) (t : TypeId) (h : k < n) : WordsAt (w.alloc (.cells ((madeCells #[Value.int .u64 0] n).setIfInBounds k (.int .u64 (x : Int))) t)).heap.size (w.alloc (.cells ((madeCells #[Value.int .u64 0] n).setIfInBounds k (.int .u64 (x : Int))) t))
    (.slice (some ⟨w.heap.size, 0, none⟩) n n) n (dvOf (alone n k x)) ∧ w.heap.size < (w.alloc (.cells ((madeCells #[Value.int .u64 0] n).setIfInBounds k (.int .u64 (x : Int))) t)).heap.size := by
  refine ⟨.inr ⟨w.heap.size, 0, n, rfl, by simp, fun j hj => ?_⟩, by simp⟩
  rw [Nat.zero_add, World.cell?_alloc_new, Array.getElem?_setIfInBounds]
  unfold dvOf
  by_cases e : k = j
  · subst e
    rw [alone_at h]
    simp [madeCells, h]
  · rw [alone_other (Ne.symm e)]
    simp [madeCells, e, hj, Nat.mod_one]

namespace wordPlaces

/-- What stands where its part is, as the law reckons it. -/
theorem shl_val {ds : List Nat} {k x : Nat} (hs : ds.sum ≤ 64) (hk : k < ds.length) (hx : x < 2 ^ ds.getD k 0) : IntKind.u64.wrap ((x : Int) * 2 ^ (svOf ds k).toNat) = ((Wd.acc ds (alone ds.length k x) (List.range ds.length) : Nat) : Int) := by
  rw [Wd.acc_alone ds _ hs (alone_fits hk hx) k hk (fun j hj => alone_other hj), alone_at hk]
  unfold svOf
  rw [Int.toNat_natCast]
  have hin := Wd.sh_in ds k
  have h4 : x * 2 ^ Wd.sh ds k < 2 ^ ds.getD k 0 * 2 ^ Wd.sh ds k := Nat.mul_lt_mul_of_pos_right hx (Nat.two_pow_pos _)
  rw [← Nat.pow_add] at h4
  have h5 := Wd.pow_le64 (d := ds.getD k 0 + Wd.sh ds k) (by omega)
  have e2 : (2 : Int) ^ Wd.sh ds k = ((2 ^ Wd.sh ds k : Nat) : Int) := by simp
  rw [e2, ← Int.natCast_mul, IntKind.wrap_u64, Nat.shiftLeft_eq]
  generalize x * 2 ^ Wd.sh ds k = q at *
  exact Int.emod_eq_of_lt (by omega) (by omega)
theorem get_val {ds : List Nat} {k x : Nat} (hs : ds.sum ≤ 64) (hk : k < ds.length) (hx : x < 2 ^ ds.getD k 0) :
    ((Wd.get ((Wd.acc ds (alone ds.length k x) (List.range ds.length) : Nat) : Int).toNat (svOf ds k).toNat (dvOf ds k).toNat : Nat) : Int) = (x : Int) := by
  unfold svOf dvOf
  simp only [Int.toNat_natCast]
  rw [Wd.get_acc ds _ hs (alone_fits hk hx) hk, alone_at hk]

theorem keepRows {w x y : World} {b1 o1 b2 o2 : Nat} {u v : Value} (h : x.cell? ⟨b1, o1, none⟩ = some u ∧ x.cell? ⟨b2, o2, none⟩ = some v ∧ b1 < x.heap.size ∧ b2 < x.heap.size ∧ w.heap.size ≤ x.heap.size ∧ Below w.heap.size w x) (hb : Below x.heap.size x y) :
    y.cell? ⟨b1, o1, none⟩ = some u ∧ y.cell? ⟨b2, o2, none⟩ = some v ∧ b1 < y.heap.size ∧ b2 < y.heap.size ∧ w.heap.size ≤ y.heap.size ∧ Below w.heap.size w y := by
  obtain ⟨c0, c1, l1, l2, l3, hw⟩ := h
  have hs := hb.size
  exact ⟨(hb.cell (p := ⟨b1, o1, none⟩) l1).trans c0, (hb.cell (p := ⟨b2, o2, none⟩) l2).trans c1, by omega, by omega, by omega, hw.trans (hb.mono l3)⟩

set_option maxRecDepth 100000 in
set_option maxHeartbeats 2000000 in
theorem walk (a0 : Option Addr) (len0 cap0 : Nat) (z0 : List Int) (a1 a2 : Int) (w : World) (w0 : IsRow .i64 w a0 len0 cap0 z0) (w1 : -9223372036854775808 ≤ a1 ∧ a1 ≤ 9223372036854775807) (w2 : 0 ≤ a2 ∧ a2 ≤ 18446744073709551615) :
    Calls Try.prog 8 #[.slice a0 len0 cap0, .int .i64 a1, .int .u64 a2] w fun e w' => e = .returned (.bool true) ∧ Below w.heap.size w w' := by
  obtain ⟨i0, hi, hz0, hz1, hz2⟩ := info_parts infoU64
  obtain ⟨b0, b1⟩ := w1
  obtain ⟨b2, b3⟩ := w2
  go_enter Try.func8, Try.ntmps8
  go_wp2_with fail
  refine (awake_any _).mono ?_
  rintro e x1 ⟨rfl, hb1⟩
  have hw0 : IsRow .i64 x1 a0 len0 cap0 z0 := w0.imp id fun ⟨b, off, e, hb, h1, h2, h3, hc, h4⟩ => ⟨b, off, e, Nat.lt_of_lt_of_le hb hb1.size, h1, h2, h3, fun i hi => (hb1.cell (p := ⟨b, off + i, none⟩) hb).trans (hc i hi), h4⟩
  clear w0
  go_wp2_with fail
  refine (widths_any _ _ _ _ _ hw0).mono ?_
  rintro e x2 ⟨sv, ds, rfl, hown, hwide, hb2⟩
  obtain ⟨-, hints⟩ := intsAt_own hown
  obtain ⟨am, cm, rfl, hform⟩ := hints.form
  have hB2 := hb1.trans (hb2.mono hb1.size)
  have hlen := hwide.length
  have hall := hwide.all
  have h1 : ∀ d ∈ ds, 1 ≤ d := fun d hd => (hwide.each d hd).1
  have H1 := Lib.hid h1
  have Hw := Lib.hid hwide
  have Hi := Lib.hid hints
  have Hf := Lib.hid hform
  clear hwide hints hform hown hb1 hb2 hw0 h1
  by_cases hn : ds.length = 0
  · have hn0 : ((ds.length : Int) == 0) = true := by simp; exact List.eq_nil_of_length_eq_zero hn
    have Hn := Lib.hid hn
    clear hn
    go_wp2
    go_ret
    exact ⟨rfl, hB2⟩
  · have hn0 : ((ds.length : Int) == 0) = false := by simp; intro e; exact hn (by rw [e]; rfl)
    have p := pick_bounds a1 ds.length (by omega)
    go_wp2_with fail
    refine (pick_any _ _ _ b0 b1 (by omega) (by omega)).mono ?_
    rintro e x3 ⟨rfl, rfl⟩
    generalize hk : pickOf a1 ds.length = k at p ⊢
    clear hk
    obtain ⟨k, rfl⟩ : ∃ j : Nat, k = j := ⟨k.toNat, by omega⟩
    have hk : k < ds.length := by omega
    clear p
    have hmk := fun W => run_make_rowN (P := Try.prog) 34 22 i0 (.int .u64 0) Try.underlying34 hi hz0 .i64 .i64 ds.length ds.length (Nat.le_refl _) (by rw [hz2]; omega) (by omega) W
    simp only [hz1, Nat.mul_one] at hmk
    obtain ⟨bm, om, rfl, hbm, hcm⟩ := Hf.out k hk
    obtain ⟨d1, d2⟩ : 1 ≤ dvOf ds k ∧ dvOf ds k ≤ 20 := by
      have := Hw.out.each (ds.getD k 0) (by simp [List.getD, hk])
      unfold dvOf
      omega
    have hp := pow2_val (dvOf ds k) (by omega) (by omega)
    have hp1 := pow2_pos (dvOf ds k)
    have hp2 := pow2_le (dvOf ds k) (by omega)
    have hy0 := Int.emod_nonneg a2 (show pow2 (dvOf ds k) ≠ 0 by omega)
    have hy1 := Int.emod_lt_of_pos a2 (show 0 < pow2 (dvOf ds k) by omega)
    have hcm2 : ∀ o, (x2.alloc o).cell? ⟨bm, om + k, none⟩ = some (.int .i64 (dvOf ds k)) := fun o => (World.cell?_alloc_lt x2 o ⟨bm, om + k, none⟩ hbm).trans hcm
    have hmc : (madeCells #[Value.int .u64 0] ds.length)[k]? = some (.int .u64 0) := by simp [madeCells, hk, Nat.mod_one]
    go_wp2
    generalize hx : a2 % pow2 (dvOf ds k) = x at hy0 hy1 ⊢
    obtain ⟨x, rfl⟩ : ∃ j : Nat, x = j := ⟨x.toNat, by omega⟩
    have hxf : x < 2 ^ ds.getD k 0 := by unfold pow2 dvOf at hy1; rw [Int.toNat_natCast] at hy1; omega
    have hw0 := made_alone x2 ds.length k x 22 hk
    have hb0 := (Below.refl x2.heap.size x2).alloc (Nat.le_refl _) (.cells ((madeCells #[Value.int .u64 0] ds.length).setIfInBounds k (.int .u64 (x : Int))) 22)
    obtain ⟨y, hy⟩ : ∃ y, x2.alloc (.cells ((madeCells #[Value.int .u64 0] ds.length).setIfInBounds k (.int .u64 (x : Int))) 22) = y := ⟨_, rfl⟩
    rw [hy] at hw0 hb0 ⊢
    clear hy hx hmc hcm2 hmk hy0 hy1 hp hp1 hp2
    obtain ⟨bl, hbl⟩ : ∃ bl, x2.heap.size = bl := ⟨_, rfl⟩
    have hbs : x2.heap.size < y.heap.size := hw0.2
    rw [hbl] at hw0 ⊢
    have Hbl := Lib.hid hbl
    clear hbl
    obtain ⟨hw0, -⟩ := hw0
    have Hw0 := Lib.hid hw0
    have Hs := Lib.hid (fun k => (svOf_succ ds k).symm)
    clear hw0
    go_loop [11, 12] (fun n i => ∃ j : Nat, j ≤ k ∧ i = .int .i64 j ∧ n = .int .i64 (svOf ds j)) (fun _ i => k - (intOf i).toNat)
    case atStart => exact ⟨0, Nat.zero_le _, rfl, by rw [svOf_zero]⟩
    case round =>
      obtain ⟨j, hj, rfl, rfl⟩ := hrel
      have s0 : 0 ≤ svOf ds j := by unfold svOf; omega
      have s1 : svOf ds j + dvOf ds j ≤ 64 := by have := Wd.sh_in ds j; unfold svOf dvOf; omega
      have s2 : 0 ≤ dvOf ds j := by unfold dvOf; omega
      by_cases hlt : j < k
      · obtain ⟨b', o', e', hb', hcj⟩ := Hf.out j (by omega)
        obtain ⟨rfl, rfl⟩ : bm = b' ∧ om = o' := by simpa using e'
        have hcj1 : y.cell? ⟨bm, om + j, none⟩ = some (.int .i64 (dvOf ds j)) := (hb0.cell (p := ⟨bm, om + j, none⟩) hbm).trans hcj
        clear hcj e'
        go_wp2
        go_round
        case rel => exact ⟨j + 1, by omega, by go_num, by rw [Hs.out]⟩
        case measure => simp [intOf]; omega
      · obtain rfl : j = k := by omega
        have Hsl := Lib.hid (shl_val hall hk hxf)
        have Hgv := Lib.hid (get_val hall hk hxf)
        have Haf := Lib.hid (alone_fits hk hxf)
        have Hal := Lib.hid (alone_length ds.length j x)
        have Haccb := Wd.acc_lt ds (alone ds.length j x) (List.range ds.length) hall Haf.out
        have hcl : y.cell? ⟨bl, j, none⟩ = some (.int .u64 (x : Int)) := by
          rcases Hw0.out with ⟨h0, _⟩ | ⟨b', o', c', e', _, hc⟩
          · omega
          · injection e' with e1 e2 e3
            injection e1 with e1
            injection e1 with e1 e4
            have := hc j hk
            rw [← e1, ← e4, Nat.zero_add] at this
            rw [this]
            unfold dvOf
            rw [alone_at hk]
        have hcm1 : y.cell? ⟨bm, om + j, none⟩ = some (.int .i64 (dvOf ds j)) := (hb0.cell (p := ⟨bm, om + j, none⟩) hbm).trans hcm
        have Hmi := Lib.hid ((Hi.out.below hb0).mono hb0.size)
        have hBy := hB2.trans (hb0.mono hB2.size)
        have hbl : bl < y.heap.size := by have := Hbl.out; omega
        have hbm' : bm < y.heap.size := by omega
        clear hcm hb0
        go_wp2_with fail
        refine (pack_any ds _ hall H1.out Haf Hal hlen _ _ _ _ _ Hmi.out Hw0.out).mono ?_
        rintro e x5 ⟨rfl, hb5⟩
        have c1 := (hb5.cell (p := ⟨bl, j, none⟩) hbl).trans hcl
        have c2 := (hb5.cell (p := ⟨bm, om + j, none⟩) hbm').trans hcm1
        have l1 : bl < x5.heap.size := Nat.lt_of_lt_of_le hbl hb5.size
        have l2 : bm < x5.heap.size := Nat.lt_of_lt_of_le hbm' hb5.size
        have l3 : w.heap.size ≤ x5.heap.size := Nat.le_trans hBy.size hb5.size
        have hw5 := hBy.trans (hb5.mono hBy.size)
        have hsl := Hsl.out
        have hget : ∀ W, Calls Try.prog 14 #[.int .u64 ((Wd.acc ds (alone ds.length j x) (List.range ds.length) : Nat) : Int), .agg #[.int .i64 (svOf ds j), .int .i64 (dvOf ds j)]] W fun e w' => e = .returned (.int .u64 (x : Int)) ∧ Below W.heap.size W w' := fun W => by
          have := get_any ((Wd.acc ds (alone ds.length j x) (List.range ds.length) : Nat) : Int) (svOf ds j) (dvOf ds j) W (by omega) (by omega) s0 d1 s1
          rw [Hgv.out] at this
          exact this
        generalize ((Wd.acc ds (alone ds.length j x) (List.range ds.length) : Nat) : Int) = A at hsl hget ⊢
        have Hget := Lib.hid hget
        clear hget hcl hcm1 hb5 Haccb
        go_wp2_with fail
        go_region_held3 (fun q => q.cell? ⟨bl, j, none⟩ = some (.int .u64 (x : Int)) ∧ q.cell? ⟨bm, om + j, none⟩ = some (.int .i64 (dvOf ds j)) ∧ bl < q.heap.size ∧ bm < q.heap.size ∧ w.heap.size ≤ q.heap.size ∧ Below w.heap.size w q)
          (first | exact ⟨c1, c2, l1, l2, l3, hw5.drew⟩ | exact keepRows (by assumption) hb6)
          (first | (go_at_call 14; refine (Hget.out _).mono ?_; rintro e w6 ⟨rfl, hb6⟩))
        all_goals
          have hw6 := (‹_ ∧ _ ∧ _ ∧ _ ∧ _ ∧ Below w.heap.size w w6›).2.2.2.2.2
          go_wp2
          go_ret
          exact ⟨rfl, hw6⟩

set_option maxRecDepth 100000 in
theorem lifted (os : Os) (started : os.Started) (H : Type) (enc : TypeId × Value → H) :
    ReturnsInHanded {} Try.checked os 8 .any (Rows.wordPlacesSpec.pre6 enc Try.prog Try.f8 Rows.wordPlacesRow.domain false) (Rows.wordPlacesSpec.post enc Try.prog Try.f8 false true false false) := by
  refine returnsInHanded_of_change (C := Try.checked) own started (by kernel_rfl) Try.func8
    (ChangeSpec.witness6 (enc := enc) (C := Try.checked) false ⟨#[], #[.slice none 0 0, .int .i64 0, .int .u64 0], []⟩ 8 (by kernel_rfl) (by kernel_rfl) (by kernel_rfl) (by kernel_rfl)) ?_
  intro W base args ds gs before hval0 hW hcnd _
  have hval : ∀ (j : Nat) t v, Try.f8.params[j]? = some t → args[j]? = some v → Value.okWide Try.prog W .any base t v := hval0
  have hW' := hW
  obtain ⟨p, q, hA0, hV, rfl, hfz, hnd⟩ := hW
  have hA : DataW.TrodAll enc Try.prog W 0 (fun _ => true) true Try.f8.params.toList args.toList ds p := hA0
  rw [Try.params8] at hA hval
  obtain ⟨v0, vs0, d0, ds0, p0, q0, hargs, rfl, rfl, h0, r0⟩ := trodAll_cons hA
  obtain ⟨v1, vs1, d1, ds1, p1, q1, rfl, rfl, rfl, h1, r1⟩ := trodAll_cons r0
  obtain ⟨v2, vs2, d2, ds2, p2, q2, rfl, rfl, rfl, h2, r2⟩ := trodAll_cons r1
  obtain ⟨rfl, rfl, rfl⟩ := trodAll_nil r2
  obtain rfl : args = #[v0, v1, v2] := by cases args; simp_all
  obtain ⟨rfl, rfl⟩ := trodVars_none hV
  obtain ⟨a0, len0, cap0, rfl⟩ := okWide_slice Try.underlying33 (hval 0 33 v0 rfl rfl)
  have k0 := h0
  have lt0 : ∀ x ∈ p0, x.block < W.heap.size := by obtain ⟨m, hm⟩ := k0; exact DataW.trod_lt m _ _ _ hm
  obtain ⟨z0, w0⟩ := open_row Try.underlying33 Try.underlying3 (by kernel_rfl) h0
  obtain ⟨a1, rfl, rfl, rfl, w1⟩ := open_int Try.underlying3 (hval 1 3 v1 rfl rfl) h1
  obtain ⟨a2, rfl, rfl, rfl, w2⟩ := open_int Try.underlying22 (hval 2 22 v2 rfl rfl) h2
  clear hA0 hval0
  refine (walk a0 len0 cap0 z0 a1 a2 W w0 (bounds_i64 w1) (bounds_u64 w2)).mono fun e W' ⟨he, bel⟩ => ?_
  subst he
  exact ⟨_, rfl, _, _, _, [], _, [], hW', trodAll_mk1 (shut_bool Try.underlying4 _), (trodAll_cons_mk (Below.trod laidOut (by kernel_rfl) (of_decide_eq_true (by kernel_rfl)) k0 bel lt0) (trodAll_cons_mk (shut_int Try.underlying3 w1) (trodAll_cons_mk (shut_int Try.underlying22 w2) trodAll_mk0))), rfl, bel.frame _, fun h => by cases h⟩

theorem over : Rows.wordPlacesRow.holds Try.pinned (OpenSpec.ofChange Rows.wordPlacesSpec) :=
  OpenClaim.holds_of_wide 8 Try.f8 rfl rfl rfl rfl rfl rfl rfl ⟨rfl, rfl, rfl, rfl, rfl⟩ rfl rfl rfl rfl rfl (by kernel_rfl) Try.func8 (by kernel_rfl)
    (of_decide_eq_true (by kernel_rfl)) (by unfold Func.isWrapper; first | (rw [if_pos (by decide +kernel)]; kernel_rfl) | (rw [if_neg (by decide +kernel)]; exact ⟨rfl, rfl⟩))
    (fun os started H enc _ => lifted os started H enc)

theorem proved : Rows.WordPlacesSaid := over
#print axioms proved

end wordPlaces
end Go.Proofs.Ytadncljhckakmaa
