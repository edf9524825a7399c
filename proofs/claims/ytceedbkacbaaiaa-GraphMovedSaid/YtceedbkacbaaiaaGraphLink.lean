/- Layer 9's laws' to, Link, Roots: objects that are turned to one another; raw roots. Conditions: the raw objects lie in blocks below the arena's; the places are those of the objects. -/
import Derived.Test.YtceedbkacbaaiaaGraphObj
import Derived.Test.YtceedbkacbaaiaaMoverLay
namespace Go.Proofs.Ytceedbkacbaaiaa
open Go.ChangeShapes Go.WideShapes Go.ChangeAt Go.RowKit

set_option linter.unusedSimpArgs false
set_option linter.unusedVariables false

set_option maxRecDepth 100000 in
set_option maxHeartbeats 2000000 in
theorem to_any (n₀ k m g c : Nat) (q : Nat → Nat) (x : RawN) (w : World) (hk : k ≤ 8) (hn : n₀ ≤ w.heap.size) (hx : RowAt n₀ w x.fa x.fl x.fz) (hm : 0 < m) (hmc : m ≤ c) (hm8 : m ≤ 8) (hg : g < w.heap.size) (hw : ∀ j, j < m → w.cell? ⟨g, j, none⟩ = some (.int .i64 (q j : Nat))) :
    Calls Try.prog 30 #[.agg #[.int .i64 x.s0, .int .i64 x.s1, .int .i64 x.s2, .slice x.fa x.fl x.fc, .bool x.fr], .int .i64 k, .slice (some ⟨g, 0, none⟩) m c] w fun e w' => ∃ v : Nat, e = .returned (.int .i64 v) ∧ (v = 0 ∨ ∃ j, j < m ∧ v = q j) ∧ Below w.heap.size w w' := by
  have hB := (Below.refl w.heap.size w).alloc (Nat.le_refl _) (.cells #[.int .i64 x.s0, .int .i64 x.s1, .int .i64 x.s2, .slice x.fa x.fl x.fc, .bool x.fr] 69)
  have Hw := Lib.hid hw
  clear hw
  by_cases h1 : k < x.fl
  · rcases hx with h | ⟨fb, fo, hfa, hfb, hfm, hfc⟩
    · omega
    · obtain ⟨hc, hf⟩ := hfc k h1
      obtain ⟨zz, hzz⟩ : ∃ z, x.fz k = z := ⟨_, rfl⟩
      rw [hzz] at hc hf
      have hfbw : fb < w.heap.size := by omega
      clear hzz hfc hfm
      obtain ⟨fl, hfl⟩ : ∃ n, x.fl = n := ⟨_, rfl⟩
      obtain ⟨fc, hfc⟩ : ∃ n, x.fc = n := ⟨_, rfl⟩
      rw [hfl, hfc, hfa] at hB ⊢
      rw [hfl] at h1
      clear hfl hfc hfa
      have j0 : (0 : Int) ≤ (k : Int) := by omega
      have j1 : (k : Int) < (fl : Int) := by omega
      have j2 : decide ((fl : Int) ≤ (k : Int)) = false := decide_eq_false (by omega)
      have i1 : IntKind.i64.wrap ((m : Int) + 1) = ((m + 1 : Nat) : Int) := by rw [IntWalk.i64_in _ (by omega)]; omega
      go_enter Try.func30, Try.ntmps30
      go_wp2_with fail
      refine (pick_nat zz (m + 1) _ hf.1 hf.2 (by omega) (by omega)).mono ?_
      rintro e y ⟨n, hn1, rfl, rfl⟩
      clear hc
      by_cases hnm : n = m
      · subst hnm
        go_wp2
        go_ret
        exact ⟨0, rfl, .inl rfl, hB⟩
      · have c1 := Hw.out n (by omega)
        have b0 : (0 : Int) ≤ (n : Int) := by omega
        have b1 : (n : Int) < (m : Int) := by omega
        have b2 : ((n : Int) == (m : Int)) = false := by simp; omega
        go_wp2
        go_ret
        exact ⟨q n, rfl, .inr ⟨n, by omega, rfl⟩, hB⟩
  · obtain ⟨fl, hfl⟩ : ∃ n, x.fl = n := ⟨_, rfl⟩
    rw [hfl] at hB h1 ⊢
    clear hfl hx
    have j2 : decide ((fl : Int) ≤ (k : Int)) = true := decide_eq_true (by omega)
    go_enter Try.func30, Try.ntmps30
    go_wp2
    go_ret
    exact ⟨0, rfl, .inl rfl, hB⟩

set_option maxRecDepth 100000 in
set_option maxHeartbeats 4000000 in
theorem roots_any (n₀ m rl rc : Nat) (ra wa : Option Addr) (wc : Nat) (z : Nat → Int) (q : Nat → Nat) (w : World) (hn : n₀ ≤ w.heap.size) (hr : RowAt n₀ w ra rl z) (hm8 : m ≤ 8)
    (hw : 0 < m → ∃ g, wa = some ⟨g, 0, none⟩ ∧ m ≤ wc ∧ g < w.heap.size ∧ ∀ j, j < m → w.cell? ⟨g, j, none⟩ = some (.int .i64 (q j : Nat))) :
    Calls Try.prog 10 #[.slice ra rl rc, .slice wa m wc] w fun e w' => ∃ (sv : Value) (zs : List Int), e = .returned sv ∧ zs.length ≤ 5 ∧ (∀ x ∈ zs, x = 0 ∨ ∃ j, j < m ∧ x = (q j : Nat)) ∧ w'.ownsRow w.heap.size 3 1 sv zs.length (zs.map (Value.int .i64)) ∧ Below w.heap.size w w' := by
  obtain ⟨i0, hi, hz0, hz1, hz2⟩ := info_parts infoInt
  have Hw := Lib.hid hw
  have Hr := Lib.hid hr
  obtain ⟨B, hB0⟩ : ∃ B, w.heap.size = B := ⟨_, rfl⟩
  have HB := Lib.hid hB0
  clear hw hr hB0
  go_enter Try.func10, Try.ntmps10
  go_wp2
  go_loopw [5, 6] (fun out i wr => ∃ (k : Nat) (zs : List Int), k ≤ rl ∧ k ≤ 5 ∧ i = .int .i64 k ∧ zs.length = k ∧ (∀ x ∈ zs, x = 0 ∨ ∃ j, j < m ∧ x = (q j : Nat)) ∧ wr.ownsRow B 3 1 out k (zs.map (Value.int .i64)) ∧ Below B w wr) (fun _ i _ => 5 - (intOf i).toNat)
  case atStart => exact ⟨0, [], by omega, by omega, rfl, rfl, by simp, World.ownsRow_nil _ _ _ _, by rw [← HB.out]; exact Below.refl _ _⟩
  case round =>
    obtain ⟨k, zs, hk, hk5, rfl, hzl, hzs, hown, hB⟩ := hrel
    have Hzs := Lib.hid hzs
    have Hzl := Lib.hid hzl
    clear hzs hzl
    by_cases h1 : k < rl
    · by_cases h2 : k < 5
      · rcases Hr.out with h | ⟨rb, ro, rfl, hrb, hrm, hrc⟩
        · omega
        · obtain ⟨hc, hf⟩ := hrc k h1
          replace hc := (hB.cell (p := ⟨rb, ro + k, none⟩) (by have := HB.out; show rb < B; omega)).trans hc
          obtain ⟨zz, hzz⟩ : ∃ x, z k = x := ⟨_, rfl⟩
          rw [hzz] at hc hf
          clear hzz hrc
          have j0 : (0 : Int) ≤ (k : Int) := by omega
          have j1 : (k : Int) < (rl : Int) := by omega
          have j2 : decide ((k : Int) < 5) = true := decide_eq_true (by omega)
          have i1 : IntKind.i64.wrap ((m : Int) + 1) = ((m + 1 : Nat) : Int) := by rw [IntWalk.i64_in _ (by omega)]; omega
          have hbase : B ≤ wr.heap.size := by have := hB.size; have := HB.out; omega
          have hrm' : rl ≤ 9223372036854775807 := by unfold maxLen at hrm; omega
          go_wp2_with fail
          refine (pick_nat zz (m + 1) _ hf.1 hf.2 (by omega) (by omega)).mono ?_
          rintro e y ⟨n, hn1, rfl, rfl⟩
          clear hc
          by_cases hnm : n < m
          · obtain ⟨g, rfl, hmc, hg, hgc⟩ := Hw.out (by omega)
            have c1 := (hB.cell (p := ⟨g, n, none⟩) (by have := HB.out; show g < B; omega)).trans (hgc n hnm)
            clear hgc
            have b0 : (0 : Int) ≤ (n : Int) := by omega
            have b1 : (n : Int) < (m : Int) := by omega
            have Hs : Hid (zs.map (Value.int .i64) ++ [.int .i64 (q n : Nat)] = (zs ++ [((q n : Nat) : Int)]).map (Value.int .i64)) := Lib.hid (by simp)
            go_wp2_with (at_builtin; refine wpList_append_own _ rfl _ _ 23 rfl B 3 i0 (.int .i64 0) 1 8 Try.underlying23 hi hz0 hz1 hz2 rfl (by decide) u5 _ _ rfl (hown.alloc _) ⟨wr.heap.size, 0, none⟩ 1 1 [.int .i64 (q n : Nat)] rfl rfl (cell_one_new _ _ _) (by simp [Value.oneCell']) (by unfold maxLen; omega) (by omega) (by simp; omega) ?_; intro v' w2 hown2 hgr hnil)
            go_roundw
            case rel =>
              rw [Hs.out] at hown2
              refine ⟨k + 1, _, by omega, by omega, by go_num, by rw [List.length_append, Hzl.out]; rfl, fun x hx => ?_, hown2, hB.trans (((Chg.refl (fun c => B ≤ c) wr).alloc _).trans (chg_of_append (hown.alloc _) hgr) |>.below (fun k e => e) hbase)⟩
              rcases List.mem_append.1 hx with h | h
              · exact Hzs.out x h
              · exact .inr ⟨n, hnm, by simpa using h⟩
            case measure => simp [intOf]; omega
          · obtain rfl : n = m := by omega
            have Hs : Hid (zs.map (Value.int .i64) ++ [.int .i64 0] = (zs ++ [0]).map (Value.int .i64)) := Lib.hid (by simp)
            go_wp2_with (at_builtin; refine wpList_append_own _ rfl _ _ 23 rfl B 3 i0 (.int .i64 0) 1 8 Try.underlying23 hi hz0 hz1 hz2 rfl (by decide) u5 _ _ rfl (hown.alloc _) ⟨wr.heap.size, 0, none⟩ 1 1 [.int .i64 0] rfl rfl (cell_one_new _ _ _) (by simp [Value.oneCell']) (by unfold maxLen; omega) (by omega) (by simp; omega) ?_; intro v' w2 hown2 hgr hnil)
            go_roundw
            case rel =>
              rw [Hs.out] at hown2
              refine ⟨k + 1, _, by omega, by omega, by go_num, by rw [List.length_append, Hzl.out]; rfl, fun x hx => ?_, hown2, hB.trans (((Chg.refl (fun c => B ≤ c) wr).alloc _).trans (chg_of_append (hown.alloc _) hgr) |>.below (fun k e => e) hbase)⟩
              rcases List.mem_append.1 hx with h | h
              · exact Hzs.out x h
              · exact .inl (by simpa using h)
            case measure => simp [intOf]; omega
      · have j2 : decide ((k : Int) < 5) = false := decide_eq_false (by omega)
        obtain ⟨sa, sc, rfl⟩ := own_slice hown
        go_wp2
        go_ret
        exact ⟨_, zs, rfl, by rw [Hzl.out]; omega, Hzs.out, by rw [HB.out, Hzl.out]; exact hown, by have e := HB.out; rw [e]; exact hB⟩
    · clear hi
      obtain ⟨sa, sc, rfl⟩ := own_slice hown
      go_wp2
      go_ret
      exact ⟨_, zs, rfl, by rw [Hzl.out]; omega, Hzs.out, by rw [HB.out, Hzl.out]; exact hown, by have e := HB.out; rw [e]; exact hB⟩

/-- What SetPtr lays, if there is such a pointer. -/
def lnk (l : List Int) (a p k v : Nat) : List Int := if k < p then l.set (a + (3 + k)) v else l
theorem lnk_length (l : List Int) (a p k v : Nat) : (lnk l a p k v).length = l.length := by unfold lnk; split <;> simp
section
variable {P b : Nat} {l : List Int} {p d : Nat} {wk fn fr : Bool}
theorem setPtr_lnk (a i v : Nat) (w : World) (h : ArenaAt 65 w P b l) (o : ObjIs l a p d wk fn fr) (hi : i ≤ 8) (hv : v ≤ 131072) :
    Calls Try.prog 21 #[.pointer (some ⟨P, 0, none⟩), .int .i64 a, .int .i64 i, .int .i64 v] w fun e w' => ∃ er : Int, e = .returned (.int .i64 er) ∧ ArenaAt 65 w' P b (lnk l a p i v) ∧ Chg (· = b) w w' := by
  unfold lnk
  by_cases hp : i < p
  · rw [if_pos hp]
    refine (setPtr_at a i v w h o hp hv).mono ?_
    rintro e x ⟨rfl, hA, hc⟩
    exact ⟨_, rfl, hA, hc⟩
  · rw [if_neg hp]
    refine (setPtr_no a i v w h o (by omega) (by omega) (by omega)).mono ?_
    rintro e x ⟨rfl, hb⟩
    exact ⟨_, rfl, h.below hb h.lt.1 h.lt.2, Chg.of_below hb (Nat.le_refl _)⟩
end

/-- A pointer that is none, or leads to one of the places. -/
def PtrTo (q : Nat → Nat) (m : Nat) (y : Int) : Prop := y = 0 ∨ ∃ j, j < m ∧ y = (q j : Nat)
/-- The objects' places are apart, one behind the other; l' is l but for their pointers, of which those ahead of (i, k) are turned. -/
structure Linked (l l' : List Int) (os : Nat → Ob) (m i k : Nat) : Prop where
  len : l'.length = l.length
  low : ∀ j t, j < m → t < 3 → l'.getD (1 + off os j + t) 0 = l.getD (1 + off os j + t) 0
  zero : l'.getD 0 0 = l.getD 0 0
  done : ∀ j t, j < m → t < (os j).p → (j < i ∨ (j = i ∧ t < k)) → PtrTo (fun n => 1 + off os n) m (l'.getD (1 + off os j + (3 + t)) 0)
theorem Linked.obs {l l' : List Int} {os : Nat → Ob} {m i k : Nat} (h : Linked l l' os m i k) (ho : ObsAt l 1 os m) : ObsAt l' 1 os m :=
  ho.same h.len fun j hj => h.low j 0 hj (by omega)
theorem Linked.step {l l' : List Int} {os : Nat → Ob} {m i k v : Nat} (h : Linked l l' os m i k) (ho : ObsAt l 1 os m) (hi : i < m) (hv : v = 0 ∨ ∃ j, j < m ∧ v = 1 + off os j) : Linked l (lnk l' (1 + off os i) (os i).p k v) os m i (k + 1) := by
  have hOi := ho i hi
  have key : ∀ {c}, c < l'.length → (lnk l' (1 + off os i) (os i).p k v).getD c 0 = if k < (os i).p ∧ c = 1 + off os i + (3 + k) then (v : Int) else l'.getD c 0 := fun {c} hc => by
    unfold lnk
    by_cases hk : k < (os i).p
    · rw [if_pos hk, set_at' hc]
      by_cases e : c = 1 + off os i + (3 + k)
      · rw [if_pos e, if_pos ⟨hk, e⟩]
      · rw [if_neg e, if_neg fun h => e h.2]
    · rw [if_neg hk, if_neg fun h => hk h.1]
  have apart : ∀ j t, j < m → j ≠ i → t < 3 + (os j).p → k < (os i).p → 1 + off os j + t ≠ 1 + off os i + (3 + k) := fun j t hj hne ht hk e => by
    have hOj := ho j hj
    by_cases hji : j < i
    · have h1 := off_room hji hOj.ptrs hOj.data
      unfold Ob.n at h1
      omega
    · have h1 := off_room (show i < j by omega) hOi.ptrs hOi.data
      unfold Ob.n at h1
      omega
  refine ⟨by rw [lnk_length]; exact h.len, fun j t hj ht => ?_, ?_, fun j t hj ht hd => ?_⟩
  · have hr := (ho j hj).room
    rw [key (by rw [h.len]; omega), if_neg, h.low j t hj ht]
    rintro ⟨hk, e⟩
    by_cases hne : j = i
    · subst hne; omega
    · exact apart j t hj hne (by omega) hk e
  · rw [key (by have := hOi.room; rw [h.len]; omega), if_neg (by omega), h.zero]
  · have hr := (ho j hj).room
    rw [key (by rw [h.len]; omega)]
    by_cases hc : k < (os i).p ∧ 1 + off os j + (3 + t) = 1 + off os i + (3 + k)
    · rw [if_pos hc]
      rcases hv with rfl | ⟨n, hn, rfl⟩
      · exact .inl rfl
      · exact .inr ⟨n, hn, rfl⟩
    · rw [if_neg hc]
      refine h.done j t hj ht ?_
      rcases hd with hd | ⟨rfl, hd⟩
      · exact .inl hd
      · refine .inr ⟨rfl, ?_⟩
        by_cases e : t = k
        · subst e; exact absurd ⟨ht, rfl⟩ hc
        · omega
theorem Linked.next {l l' : List Int} {os : Nat → Ob} {m i : Nat} (h : Linked l l' os m i 8) (ho : ObsAt l 1 os m) : Linked l l' os m (i + 1) 0 :=
  ⟨h.len, h.low, h.zero, fun j t hj ht hd => h.done j t hj ht (by
    by_cases e : j = i
    · exact .inr ⟨e, by have := (ho j hj).ptrs; omega⟩
    · exact .inl (by omega))⟩

set_option maxRecDepth 100000 in
set_option maxHeartbeats 8000000 in
theorem link_any (n₀ P b m rl rc : Nat) (ra wa : Option Addr) (wc : Nat) (f : Nat → RawN) (os : Nat → Ob) (l : List Int) (w : World) (hA : ArenaAt 65 w P b l) (hnb : n₀ ≤ b) (hn : n₀ ≤ w.heap.size) (hR : RawsAt n₀ w ra rl f) (hml : m ≤ rl) (hm8 : m ≤ 8) (hobs : ObsAt l 1 os m) (hoff : off os m ≤ 150)
    (hw : 0 < m → ∃ g, wa = some ⟨g, 0, none⟩ ∧ m ≤ wc ∧ g < w.heap.size ∧ g ≠ b ∧ ∀ j, j < m → w.cell? ⟨g, j, none⟩ = some (.int .i64 (1 + off os j : Nat))) :
    Calls Try.prog 9 #[.pointer (some ⟨P, 0, none⟩), .slice ra rl rc, .slice wa m wc] w fun e w' => ∃ l', e = .returned (.tuple #[]) ∧ ArenaAt 65 w' P b l' ∧ Linked l l' os m m 0 ∧ Chg (· = b) w w' := by
  have hlt := hA.lt
  have Hw := Lib.hid hw
  have HR := Lib.hid hR
  clear hw hR
  go_enter Try.func9, Try.ntmps9
  go_wp2
  go_loopw [6] (fun i wr => ∃ (k : Nat) (l' : List Int), k ≤ m ∧ i = .int .i64 k ∧ ArenaAt 65 wr P b l' ∧ Linked l l' os m k 0 ∧ Chg (· = b) w wr) (fun i _ => m - (intOf i).toNat)
  case atStart => exact ⟨0, l, by omega, rfl, hA, ⟨rfl, fun _ _ _ _ => rfl, rfl, fun j t _ _ h => by omega⟩, Chg.refl _ _⟩
  case round =>
    clear hA
    obtain ⟨k, l1, hk, rfl, hA1, hL, hch⟩ := hrel
    by_cases hkm : k < m
    · obtain ⟨g, rfl, hmc, hgw, hgb, hgc⟩ := Hw.out (by omega)
      have hwk := hgc k hkm
      have Hgc := Lib.hid hgc
      rcases HR.out with h | ⟨rb, ro, rfl, hrb, hrm, hrc⟩
      · omega
      · obtain ⟨hraw, -, hrow⟩ := hrc k (by omega)
        obtain ⟨u, hu⟩ : ∃ u, 1 + off os k = u := ⟨_, rfl⟩
        rw [hu] at hwk
        have Hu := Lib.hid hu
        have Hraw := Lib.hid hraw
        clear hgc hrc hraw hu
        have j0 : (0 : Int) ≤ (k : Int) := by omega
        have j1 : (k : Int) < (m : Int) := by omega
        have j2 : (k : Int) < (rl : Int) := by omega
        go_wp2
        obtain ⟨wo, rfl⟩ : ∃ wo : World, wo = wr := ⟨_, rfl⟩
        go_loopw [7] (fun j wr => ∃ (t : Nat) (l' : List Int), t ≤ 8 ∧ j = .int .i64 t ∧ ArenaAt 65 wr P b l' ∧ Linked l l' os m k t ∧ Chg (· = b) wo wr) (fun j _ => 8 - (intOf j).toNat)
        case atStart => exact ⟨0, l1, by omega, rfl, hA1, hL, Chg.refl _ _⟩
        case round =>
          clear hA1 hL
          obtain ⟨t, l2, ht, rfl, hA2, hL2, hch2⟩ := hrel
          by_cases ht8 : t < 8
          · have hcw := hch.trans hch2
            have hbn : Below n₀ w wr := hcw.below (fun k e => by omega) hn
            have hraw := Hraw.out.on hbn hrb
            have hwk2 := (hcw.cell (p := ⟨g, k, none⟩) hgw hgb).trans hwk
            have hO := hL2.obs hobs k hkm
            have hrow2 := hrow.below hbn
            have j3 : decide ((t : Int) < 8) = true := decide_eq_true (by omega)
            have hwrn : n₀ ≤ wr.heap.size := by have := hcw.size; omega
            have hgwr : g < wr.heap.size := by have := hcw.size; omega
            have M1 := fun y (hy : Below wr.heap.size wr y) => to_any n₀ t m g wc (fun j => 1 + off os j) (f k) y (by omega) (by have := hy.size; omega) (hrow2.below (hy.mono hwrn)) (by omega) hmc hm8 (by have := hy.size; omega) (fun j hj => (hy.cell (p := ⟨g, j, none⟩) hgwr).trans ((hcw.cell (p := ⟨g, j, none⟩) hgw hgb).trans (Hgc.out j hj)))
            have hAl := hA2.lt
            go_upto_region 6 with fail
            obtain ⟨c0, c1, c2, c3, c4⟩ := hraw
            refine wp_region_noPanic ?_
            refine wp_region_held_drew (S := fun y => (y.cell? ⟨rb, ro + k * 5, none⟩ = some (.int .i64 (f k).s0) ∧ y.cell? ⟨rb, ro + k * 5 + 1, none⟩ = some (.int .i64 (f k).s1) ∧ y.cell? ⟨rb, ro + k * 5 + 2, none⟩ = some (.int .i64 (f k).s2) ∧ y.cell? ⟨rb, ro + k * 5 + 3, none⟩ = some (.slice (f k).fa (f k).fl (f k).fc) ∧ y.cell? ⟨rb, ro + k * 5 + 4, none⟩ = some (.bool (f k).fr)) ∧ y.cell? ⟨g, k, none⟩ = some (.int .i64 u)) (by kernel_rfl) ⟨⟨c0, c1, c2, c3, c4⟩, hwk2⟩ (fun hS => ?_)
            have hrbw : rb < wr.heap.size := by omega
            have HS := fun (y : World) (hy : Chg (· = b) wr y) => (show (y.cell? ⟨rb, ro + k * 5, none⟩ = some (.int .i64 (f k).s0) ∧ y.cell? ⟨rb, ro + k * 5 + 1, none⟩ = some (.int .i64 (f k).s1) ∧ y.cell? ⟨rb, ro + k * 5 + 2, none⟩ = some (.int .i64 (f k).s2) ∧ y.cell? ⟨rb, ro + k * 5 + 3, none⟩ = some (.slice (f k).fa (f k).fl (f k).fc) ∧ y.cell? ⟨rb, ro + k * 5 + 4, none⟩ = some (.bool (f k).fr)) ∧ y.cell? ⟨g, k, none⟩ = some (.int .i64 u) from
              have hr := fun j => hy.cell (p := ⟨rb, j, none⟩) hrbw (by show ¬ rb = b; omega)
              ⟨⟨(hr _).trans c0, (hr _).trans c1, (hr _).trans c2, (hr _).trans c3, (hr _).trans c4⟩, (hy.cell (p := ⟨g, k, none⟩) hgwr hgb).trans hwk2⟩)
            clear c0 c1 c2 c3 c4 hwk2
            first
            | (refine wpAnyH_take (i := 0) (v := ?_) rfl (by kernel_rfl) (by kernel_rfl) (by kernel_rfl) (fun _ _ _ h => h) (Or.inl ⟨by rfl, ?_⟩) hS ?_; rotate_left; (· (intro y hy; (try dsimp only at hy); go_simp; try with_reducible rfl)); try simp only [Act.put, List.setIfInBounds_toArray, List.set_cons_zero, List.set_cons_succ, List.getElem_toArray, List.getElem_cons_zero, List.getElem_cons_succ])
            | (refine wpAnyH_take (i := 0) (v := undef) rfl (by kernel_rfl) (by kernel_rfl) (by kernel_rfl) (fun _ _ _ h => h) (Or.inr ⟨by rfl, rfl⟩) hS ?_; try simp only [Act.put, List.setIfInBounds_toArray, List.set_cons_zero, List.set_cons_succ, List.getElem_toArray, List.getElem_cons_zero, List.getElem_cons_succ])
            first
            | (refine wpAnyH_take (i := 1) (v := ?_) rfl (by kernel_rfl) (by kernel_rfl) (by kernel_rfl) (fun _ _ _ h => h) (Or.inl ⟨by rfl, ?_⟩) hS ?_; rotate_left; (· (intro y hy; (try dsimp only at hy); go_simp; try with_reducible rfl)); try simp only [Act.put, List.setIfInBounds_toArray, List.set_cons_zero, List.set_cons_succ, List.getElem_toArray, List.getElem_cons_zero, List.getElem_cons_succ])
            | (refine wpAnyH_take (i := 1) (v := undef) rfl (by kernel_rfl) (by kernel_rfl) (by kernel_rfl) (fun _ _ _ h => h) (Or.inr ⟨by rfl, rfl⟩) hS ?_; try simp only [Act.put, List.setIfInBounds_toArray, List.set_cons_zero, List.set_cons_succ, List.getElem_toArray, List.getElem_cons_zero, List.getElem_cons_succ])
            first
            | (refine wpAnyH_take (i := 2) (v := ?_) rfl (by kernel_rfl) (by kernel_rfl) (by kernel_rfl) (fun _ _ _ h => h) (Or.inl ⟨by rfl, ?_⟩) hS ?_; rotate_left; (· (intro y hy; (try dsimp only at hy); go_simp; try with_reducible rfl)); try simp only [Act.put, List.setIfInBounds_toArray, List.set_cons_zero, List.set_cons_succ, List.getElem_toArray, List.getElem_cons_zero, List.getElem_cons_succ])
            | (refine wpAnyH_take (i := 2) (v := undef) rfl (by kernel_rfl) (by kernel_rfl) (by kernel_rfl) (fun _ _ _ h => h) (Or.inr ⟨by rfl, rfl⟩) hS ?_; try simp only [Act.put, List.setIfInBounds_toArray, List.set_cons_zero, List.set_cons_succ, List.getElem_toArray, List.getElem_cons_zero, List.getElem_cons_succ])
            first
            | (refine wpAnyH_take (i := 3) (v := ?_) rfl (by kernel_rfl) (by kernel_rfl) (by kernel_rfl) (fun _ _ _ h => h) (Or.inl ⟨by rfl, ?_⟩) hS ?_; rotate_left; (· (intro y hy; (try dsimp only at hy); go_simp; try with_reducible rfl)); try simp only [Act.put, List.setIfInBounds_toArray, List.set_cons_zero, List.set_cons_succ, List.getElem_toArray, List.getElem_cons_zero, List.getElem_cons_succ])
            | (refine wpAnyH_take (i := 3) (v := undef) rfl (by kernel_rfl) (by kernel_rfl) (by kernel_rfl) (fun _ _ _ h => h) (Or.inr ⟨by rfl, rfl⟩) hS ?_; try simp only [Act.put, List.setIfInBounds_toArray, List.set_cons_zero, List.set_cons_succ, List.getElem_toArray, List.getElem_cons_zero, List.getElem_cons_succ])
            first
            | (refine wpAnyH_take (i := 4) (v := ?_) rfl (by kernel_rfl) (by kernel_rfl) (by kernel_rfl) (fun _ _ _ h => h) (Or.inl ⟨by rfl, ?_⟩) hS ?_; rotate_left; (· (intro y hy; (try dsimp only at hy); go_simp; try with_reducible rfl)); try simp only [Act.put, List.setIfInBounds_toArray, List.set_cons_zero, List.set_cons_succ, List.getElem_toArray, List.getElem_cons_zero, List.getElem_cons_succ])
            | (refine wpAnyH_take (i := 4) (v := undef) rfl (by kernel_rfl) (by kernel_rfl) (by kernel_rfl) (fun _ _ _ h => h) (Or.inr ⟨by rfl, rfl⟩) hS ?_; try simp only [Act.put, List.setIfInBounds_toArray, List.set_cons_zero, List.set_cons_succ, List.getElem_toArray, List.getElem_cons_zero, List.getElem_cons_succ])
            first
            | (refine wpAnyH_take (i := 5) (v := ?_) rfl (by kernel_rfl) (by kernel_rfl) (by kernel_rfl) (fun _ _ _ h => h) (Or.inl ⟨by rfl, ?_⟩) hS ?_; rotate_left; (· (intro y hy; (try dsimp only at hy); go_simp; try with_reducible rfl)); try simp only [Act.put, List.setIfInBounds_toArray, List.set_cons_zero, List.set_cons_succ, List.getElem_toArray, List.getElem_cons_zero, List.getElem_cons_succ])
            | (refine wpAnyH_take (i := 5) (v := undef) rfl (by kernel_rfl) (by kernel_rfl) (by kernel_rfl) (fun _ _ _ h => h) (Or.inr ⟨by rfl, rfl⟩) hS ?_; try simp only [Act.put, List.setIfInBounds_toArray, List.set_cons_zero, List.set_cons_succ, List.getElem_toArray, List.getElem_cons_zero, List.getElem_cons_succ])
            first
            | (refine wpAnyH_take (i := 6) (v := ?_) rfl (by kernel_rfl) (by kernel_rfl) (by kernel_rfl) (fun _ _ _ h => h) (Or.inl ⟨by rfl, ?_⟩) hS ?_; rotate_left; (· (intro y hy; (try dsimp only at hy); go_simp; try with_reducible rfl)); try simp only [Act.put, List.setIfInBounds_toArray, List.set_cons_zero, List.set_cons_succ, List.getElem_toArray, List.getElem_cons_zero, List.getElem_cons_succ])
            | (refine wpAnyH_take (i := 6) (v := undef) rfl (by kernel_rfl) (by kernel_rfl) (by kernel_rfl) (fun _ _ _ h => h) (Or.inr ⟨by rfl, rfl⟩) hS ?_; try simp only [Act.put, List.setIfInBounds_toArray, List.set_cons_zero, List.set_cons_succ, List.getElem_toArray, List.getElem_cons_zero, List.getElem_cons_succ])
            first
            | (refine wpAnyH_take (i := 7) (v := ?_) rfl (by kernel_rfl) (by kernel_rfl) (by kernel_rfl) (fun _ _ _ h => h) (Or.inl ⟨by rfl, ?_⟩) hS ?_; rotate_left; (· (intro y hy; (try dsimp only at hy); go_simp; try with_reducible rfl)); try simp only [Act.put, List.setIfInBounds_toArray, List.set_cons_zero, List.set_cons_succ, List.getElem_toArray, List.getElem_cons_zero, List.getElem_cons_succ])
            | (refine wpAnyH_take (i := 7) (v := undef) rfl (by kernel_rfl) (by kernel_rfl) (by kernel_rfl) (fun _ _ _ h => h) (Or.inr ⟨by rfl, rfl⟩) hS ?_; try simp only [Act.put, List.setIfInBounds_toArray, List.set_cons_zero, List.set_cons_succ, List.getElem_toArray, List.getElem_cons_zero, List.getElem_cons_succ])
            first
            | (refine wpAnyH_take (i := 8) (v := ?_) rfl (by kernel_rfl) (by kernel_rfl) (by kernel_rfl) (fun _ _ _ h => h) (Or.inl ⟨by rfl, ?_⟩) hS ?_; rotate_left; (· (intro y hy; (try dsimp only at hy); go_simp; try with_reducible rfl)); try simp only [Act.put, List.setIfInBounds_toArray, List.set_cons_zero, List.set_cons_succ, List.getElem_toArray, List.getElem_cons_zero, List.getElem_cons_succ])
            | (refine wpAnyH_take (i := 8) (v := undef) rfl (by kernel_rfl) (by kernel_rfl) (by kernel_rfl) (fun _ _ _ h => h) (Or.inr ⟨by rfl, rfl⟩) hS ?_; try simp only [Act.put, List.setIfInBounds_toArray, List.set_cons_zero, List.set_cons_succ, List.getElem_toArray, List.getElem_cons_zero, List.getElem_cons_succ])
            first
            | (refine wpAnyH_take (i := 9) (v := ?_) rfl (by kernel_rfl) (by kernel_rfl) (by kernel_rfl) (fun _ _ _ h => h) (Or.inl ⟨by rfl, ?_⟩) hS ?_; rotate_left; (· (intro y hy; (try dsimp only at hy); go_simp; try with_reducible rfl)); try simp only [Act.put, List.setIfInBounds_toArray, List.set_cons_zero, List.set_cons_succ, List.getElem_toArray, List.getElem_cons_zero, List.getElem_cons_succ])
            | (refine wpAnyH_take (i := 9) (v := undef) rfl (by kernel_rfl) (by kernel_rfl) (by kernel_rfl) (fun _ _ _ h => h) (Or.inr ⟨by rfl, rfl⟩) hS ?_; try simp only [Act.put, List.setIfInBounds_toArray, List.set_cons_zero, List.set_cons_succ, List.getElem_toArray, List.getElem_cons_zero, List.getElem_cons_succ])
            first
            | (refine wpAnyH_take (i := 10) (v := ?_) rfl (by kernel_rfl) (by kernel_rfl) (by kernel_rfl) (fun _ _ _ h => h) (Or.inl ⟨by rfl, ?_⟩) hS ?_; rotate_left; (· (intro y hy; (try dsimp only at hy); go_simp; try with_reducible rfl)); try simp only [Act.put, List.setIfInBounds_toArray, List.set_cons_zero, List.set_cons_succ, List.getElem_toArray, List.getElem_cons_zero, List.getElem_cons_succ])
            | (refine wpAnyH_take (i := 10) (v := undef) rfl (by kernel_rfl) (by kernel_rfl) (by kernel_rfl) (fun _ _ _ h => h) (Or.inr ⟨by rfl, rfl⟩) hS ?_; try simp only [Act.put, List.setIfInBounds_toArray, List.set_cons_zero, List.set_cons_succ, List.getElem_toArray, List.getElem_cons_zero, List.getElem_cons_succ])
            first
            | (refine wpAnyH_take (i := 11) (v := ?_) rfl (by kernel_rfl) (by kernel_rfl) (by kernel_rfl) (fun _ _ _ h => h) (Or.inl ⟨by rfl, ?_⟩) hS ?_; rotate_left; (· (intro y hy; (try dsimp only at hy); go_simp; try with_reducible rfl)); try simp only [Act.put, List.setIfInBounds_toArray, List.set_cons_zero, List.set_cons_succ, List.getElem_toArray, List.getElem_cons_zero, List.getElem_cons_succ])
            | (refine wpAnyH_take (i := 11) (v := undef) rfl (by kernel_rfl) (by kernel_rfl) (by kernel_rfl) (fun _ _ _ h => h) (Or.inr ⟨by rfl, rfl⟩) hS ?_; try simp only [Act.put, List.setIfInBounds_toArray, List.set_cons_zero, List.set_cons_succ, List.getElem_toArray, List.getElem_cons_zero, List.getElem_cons_succ])
            refine wpAnyH_ready (rs := [12]) (by kernel_rfl) (by simp) ?_
            refine AllReadyH.cons (o := _) rfl (fun K hK => ?_) AllReadyH.nil
            go_simp
            refine (M1 _ (Below.refl _ wr).drew).mono ?_
            rintro e y ⟨v, rfl, hv, hb2⟩
            replace hb2 : Below wr.heap.size wr y := (Below.refl _ wr).drew.trans hb2
            refine hK.out _ _ (HS _ (Chg.of_below hb2 (Nat.le_refl _))) (fun hS => ?_)
            clear hK K
            try simp only [Act.put, List.setIfInBounds_toArray, List.set_cons_zero, List.set_cons_succ]
            clear M1
            have M2 := setPtr_lnk u t v y (hA2.below hb2 hAl.1 hAl.2) (Hu.out ▸ hO) (by omega) (by
              rcases hv with h | ⟨j, hj, h⟩
              · omega
              · have h1 := off_mono os (show j ≤ m by omega)
                omega)
            refine wpAnyH_ready (rs := [13]) (by kernel_rfl) (by simp) ?_
            refine AllReadyH.cons (o := _) rfl (fun K hK => ?_) AllReadyH.nil
            go_simp
            refine M2.mono ?_
            rintro e y3 ⟨er, rfl, hA3, hc3⟩
            have hc4 := (Chg.of_below (S := (· = b)) hb2 (Nat.le_refl _)).trans hc3
            refine hK.out _ _ (HS _ hc4) (fun hS => ?_)
            clear hK K
            try simp only [Act.put, List.setIfInBounds_toArray, List.set_cons_zero, List.set_cons_succ]
            refine wpAnyH_done (by kernel_rfl) ?_ _
            refine NoPanic.normal ?_
            clear hS HS M2
            go_wp2
            go_roundw
            case rel => exact ⟨t + 1, _, by omega, by go_num, hA3, by rw [← Hu.out]; exact hL2.step hobs hkm hv, hch2.trans hc4⟩
            case measure => simp [intOf]; omega
          · obtain rfl : t = 8 := by omega
            go_wp2
            go_roundw
            case rel => exact ⟨k + 1, l2, by omega, by go_num, hA2, hL2.next hobs, hch.trans hch2⟩
            case measure => simp [intOf]; omega
    · obtain rfl : k = m := by omega
      go_wp2
      go_end0
      exact ⟨l1, rfl, hA1, hL, hch⟩

end Go.Proofs.Ytceedbkacbaaiaa
