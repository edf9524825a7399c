/- The contract of package arena's Move: the words lie there as they lay ahead. Condition: the arena is one (ArenaAt), the numbers are int's. -/
import Derived.Test.YtceedbkacbaaiaaArena
import Derived.IntWalk
namespace Go.Proofs.Ytceedbkacbaaiaa
open Go.ChangeShapes Go.WideShapes Go.ChangeAt Go.RowKit

set_option linter.unusedSimpArgs false
set_option linter.unusedVariables false

theorem moveV_yes {l : List Int} {a c n : Int} (h1 : fitsB l.length a n = true) (h2 : fitsB l.length c n = true) : moveV l a c n = layL l c.toNat (fun j => l.getD (a.toNat + j) 0) n.toNat := by
  unfold moveV; rw [h1, h2]; rfl
theorem moveV_no {l : List Int} {a c n : Int} (h : (fitsB l.length a n && fitsB l.length c n) = false) : moveV l a c n = l := by
  unfold moveV; rw [h]; rfl

theorem err2V_yes {len : Nat} {a c n : Int} (h1 : fitsB len a n = true) (h2 : fitsB len c n = true) : err2V len a c n = 0 := by
  unfold err2V; rw [h1, h2]; rfl
theorem err2V_no {len : Nat} {a c n : Int} (h : (fitsB len a n && fitsB len c n) = false) : err2V len a c n = 20 := by
  unfold err2V; rw [h]; rfl

/-- What is copied, as the walk's law wants it. -/
theorem move_cells {l : List Int} {a c n : Nat} (w : World) (b : Nat) (t : TypeId) (hr : BlkIs w b (l.map (Value.int .u64)).toArray t) (ha : a + n ≤ l.length) :
    ∀ j v, ((List.range n).map fun j => Value.int .u64 (l.getD (a + j) 0))[j]? = some v → w.cell? ((⟨b, a, none⟩ : Addr).add j) = some v := by
  intro j v hv
  have e : (⟨b, a, none⟩ : Addr).add j = ⟨b, a + j, none⟩ := by unfold Addr.add; split <;> simp_all
  rw [e, hr.cell]
  by_cases hj : j < n
  · simp [hj] at hv
    subst hv
    have : a + j < l.length := by omega
    simp [List.getD, this]
  · simp [hj] at hv

theorem move_yes {p b : Nat} {l : List Int} (a c n : Nat) (w : World) (h : ArenaAt 65 w p b l) (h1 : a + n ≤ l.length) (h2 : c + n ≤ l.length) (hpos : 0 < n) :
    Calls Try.prog 37 #[.pointer (some ⟨p, 0, none⟩), .int .i64 a, .int .i64 c, .int .i64 n] w fun e w' => e = .returned (.int .i64 0) ∧ ArenaAt 65 w' p b (layL l c (fun j => l.getD (a + j) 0) n) ∧ Chg (· = b) w w' := by
  have hl := h.len
  have H := Lib.hid h
  have F1 := Lib.hid (fitsB_of (len := l.length) (a := a) (n := n) (by omega) (by omega) (by omega))
  have F2 := Lib.hid (fitsB_of (len := l.length) (a := c) (n := n) (by omega) (by omega) (by omega))
  have hs := h.slot
  have s1 : IntKind.i64.wrap ((a : Int) + n) = (a : Int) + n := IntWalk.i64_in _ (by omega)
  have s2 : IntKind.i64.wrap ((c : Int) + n) = (c : Int) + n := IntWalk.i64_in _ (by omega)
  have s3 : ((a : Int) + n).toNat = a + n := by omega
  have s4 : ((c : Int) + n).toNat = c + n := by omega
  have a0 : (0 : Int) ≤ a := by omega
  have c0 : (0 : Int) ≤ c := by omega
  have n0 : (0 : Int) ≤ n := by omega
  have a1 : (a : Int) + n ≤ l.length := by omega
  have c1 : (c : Int) + n ≤ l.length := by omega
  have a2 : (a : Int) ≤ (a : Int) + n := by omega
  have c2 : (c : Int) ≤ (c : Int) + n := by omega
  have a3 : (0 : Int) ≤ (a : Int) + n := by omega
  have c3 : (0 : Int) ≤ (c : Int) + n := by omega
  have hpb : p ≠ b := h.ne (by decide)
  clear h
  go_enter Try.func37, Try.ntmps37
  go_wp2_with ((with_reducible refine (has_any _ _ _ H.out (by omega) (by omega) (by omega) (by omega)).mono ?_); rintro e w' ⟨rfl, rfl⟩; first | rw [F1.out] | rw [F2.out])
  by_cases hn : 0 < n
  · have hrow := H.out.row
    have hcs := move_cells (c := c) w b _ hrow h1
    have hlen : ((List.range n).map fun j => Value.int .u64 (l.getD (a + j) 0)).length = n := by simp
    have hone : ∀ v ∈ (List.range n).map fun j => Value.int .u64 (l.getD (a + j) 0), v.oneCell' = true := by
      intro v hv; obtain ⟨j, _, rfl⟩ := List.mem_map.1 hv; rfl
    obtain ⟨cs, hdef⟩ : ∃ cs, ((List.range n).map fun j => Value.int .u64 (l.getD (a + j) 0)) = cs := ⟨_, rfl⟩
    rw [hdef] at hcs hlen hone
    have Hd := Lib.hid hdef
    have Hc := Lib.hid hcs
    have Hl := Lib.hid hlen
    have Ho := Lib.hid hone
    have Hr := Lib.hid hrow
    have hna : ¬ l.length = a := by omega
    have hnc : ¬ l.length = c := by omega
    clear hdef hcs hlen hone hrow
    go_region_held3 (fun w' => w'.cell? ⟨p, 0, none⟩ = some (.slice (some ⟨b, 0, none⟩) l.length l.length)) (first | go_keep | (rw [cell_setRow_other _ _ _ _ hpb]; assumption))
      ((refine step_copy_at rfl (.tmp 29) (.tmp 38) 63 63 rfl 83 Try.underlying63 (by kernel_rfl) (some ⟨b, c, none⟩) (some ⟨b, a, none⟩) n (l.length - c) n (l.length - a) (by rfl) (by rfl) b c (l.map (Value.int .u64)) 83 Hr.out cs (by rw [Hl.out]; simp) (fun _ => ⟨rfl, _, rfl, Hc.out⟩) (by rw [Hl.out]; simpa using h2) Ho.out ?_))
    go_wp2
    go_ret
    refine ⟨rfl, ?_, (Chg.refl (· = b) _).drew.setRow (.inl rfl) _⟩
    rw [← Hd.out]
    have hA : ArenaAt 65 w.drew p b l := ⟨H.out.head, H.out.row, H.out.len, H.out.fits⟩
    exact hA.put (by decide) h2 fun j _ => getD_fits H.out.fits _
  · exact absurd hpos hn

theorem move_nil {p b : Nat} {l : List Int} (a c : Nat) (w : World) (h : ArenaAt 65 w p b l) (h1 : a ≤ l.length) (h2 : c ≤ l.length) :
    Calls Try.prog 37 #[.pointer (some ⟨p, 0, none⟩), .int .i64 a, .int .i64 c, .int .i64 0] w fun e w' => e = .returned (.int .i64 0) ∧ ArenaAt 65 w' p b l ∧ Chg (· = b) w w' := by
  have hl := h.len
  have H := Lib.hid h
  have F1 := Lib.hid (fitsB_of (len := l.length) (a := a) (n := 0) (by omega) (by omega) (by omega))
  have F2 := Lib.hid (fitsB_of (len := l.length) (a := c) (n := 0) (by omega) (by omega) (by omega))
  have hs := h.slot
  have Hr := Lib.hid h.row
  have a0 : (0 : Int) ≤ a := by omega
  have c0 : (0 : Int) ≤ c := by omega
  have a1 : (a : Int) ≤ l.length := by omega
  have c1 : (c : Int) ≤ l.length := by omega
  have s1 : IntKind.i64.wrap (a : Int) = a := IntWalk.i64_in _ (by omega)
  have s2 : IntKind.i64.wrap (c : Int) = c := IntWalk.i64_in _ (by omega)
  have hpb : p ≠ b := h.ne (by decide)
  clear h
  by_cases ea : l.length = a
  all_goals by_cases ec : l.length = c
  all_goals try subst ea
  all_goals try subst ec
  all_goals
    go_enter Try.func37, Try.ntmps37
    go_wp2_with ((with_reducible refine (has_any _ _ _ H.out (by omega) (by omega) (by omega) (by omega)).mono ?_); rintro e w' ⟨rfl, rfl⟩; first | rw [F1.out] | rw [F2.out])
    go_region_held3 (fun w' => w'.cell? ⟨p, 0, none⟩ = some (.slice (some ⟨b, 0, none⟩) l.length l.length)) (first | go_keep | (rw [cell_setRow_other _ _ _ _ hpb]; assumption))
      ((refine step_copy_at rfl (.tmp 29) (.tmp 38) 63 63 rfl 83 Try.underlying63 (by kernel_rfl) _ _ _ _ _ _ (by rfl) (by rfl) b 0 (l.map (Value.int .u64)) 83 Hr.out [] (by simp) (fun h => absurd h (by simp)) (by simp) (by simp) ?_))
    go_wp2
    go_ret
    refine ⟨rfl, ?_, (Chg.refl (· = b) _).drew.setRow (.inl rfl) _⟩
    have hA : ArenaAt 65 w.drew p b l := ⟨H.out.head, H.out.row, H.out.len, H.out.fits⟩
    exact hA.put (by decide) (a := 0) (k := 0) (f := fun _ => 0) (by simp) fun j _ => by omega

theorem move_any {p b : Nat} {l : List Int} (a c n : Int) (w : World) (h : ArenaAt 65 w p b l) (a0 : -9223372036854775808 ≤ a) (a1 : a ≤ 9223372036854775807) (c0 : -9223372036854775808 ≤ c) (c1 : c ≤ 9223372036854775807) (n0 : -9223372036854775808 ≤ n) (n1 : n ≤ 9223372036854775807) :
    Calls Try.prog 37 #[.pointer (some ⟨p, 0, none⟩), .int .i64 a, .int .i64 c, .int .i64 n] w fun e w' => e = .returned (.int .i64 (err2V l.length a c n)) ∧ ArenaAt 65 w' p b (moveV l a c n) ∧ Chg (· = b) w w' := by
  cases f1 : fitsB l.length a n
  · rw [moveV_no (by rw [f1]; rfl), err2V_no (by rw [f1]; rfl)]
    have F1 := Lib.hid f1
    clear f1
    go_enter Try.func37, Try.ntmps37
    go_wp2_with ((with_reducible refine (has_any _ _ _ h a0 a1 n0 n1).mono ?_); rintro e w' ⟨rfl, rfl⟩; rw [F1.out])
    go_ret
    exact ⟨rfl, h, Chg.refl _ _⟩
  · cases f2 : fitsB l.length c n
    · rw [moveV_no (by rw [f1, f2]; rfl), err2V_no (by rw [f1, f2]; rfl)]
      have F1 := Lib.hid f1
      have F2 := Lib.hid f2
      clear f1 f2
      go_enter Try.func37, Try.ntmps37
      go_wp2_with fail
      refine (has_any _ _ _ h a0 a1 n0 n1).mono ?_
      rintro e w' ⟨rfl, rfl⟩
      rw [F1.out]
      go_wp2_with fail
      refine (has_any _ _ _ h c0 c1 n0 n1).mono ?_
      rintro e w' ⟨rfl, rfl⟩
      rw [F2.out]
      go_wp2
      go_ret
      exact ⟨rfl, h, Chg.refl _ _⟩
    · rw [moveV_yes f1 f2, err2V_yes f1 f2]
      obtain ⟨h1, h2, h3⟩ := fitsB_yes f1
      obtain ⟨h4, _, h5⟩ := fitsB_yes f2
      obtain ⟨a, rfl⟩ : ∃ k : Nat, a = k := ⟨a.toNat, by omega⟩
      obtain ⟨c, rfl⟩ : ∃ k : Nat, c = k := ⟨c.toNat, by omega⟩
      obtain ⟨n, rfl⟩ : ∃ k : Nat, n = k := ⟨n.toNat, by omega⟩
      simp only [Int.toNat_natCast]
      by_cases hn : 0 < n
      · exact move_yes a c n w h (by omega) (by omega) hn
      · obtain rfl : n = 0 := by omega
        exact move_nil a c w h (by simpa using h3) (by simpa using h5)

end Go.Proofs.Ytceedbkacbaaiaa
