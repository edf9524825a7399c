/- For every three numbers, any field and any number: just the fields that its shape has are told, and set; errors change nothing: the law ObjectFields returns true and its arguments read as they did. No condition. -/
import Derived.Test.YtencoabgdnmbaaaObjLaw
namespace Go.Proofs.Ytencoabgdnmbaaa.objectFields
open Go.ChangeShapes Go.WideShapes Go.ChangeAt Go.RowKit
set_option linter.unusedVariables false
set_option linter.unusedSimpArgs false

theorem ObjIs.set {l : List Int} {a p d j : Nat} {wk fn fr : Bool} (o : ObjIs l a p d wk fn fr) (x : Int) (hj : ¬ j = a) : ObjIs (l.set j x) a p d wk fn fr :=
  ⟨o.right, o.ptrs, o.data, by rw [List.length_set]; exact o.room, by rw [set_at' (by have := o.room; omega), if_neg (fun e => hj e.symm)]; exact o.head⟩


set_option maxRecDepth 100000 in
set_option maxHeartbeats 4000000 in
theorem walk (a0x0 a0x1 a0x2 a1 a2 : Int) (w : World) (w0 : -9223372036854775808 ≤ a0x0 ∧ a0x0 ≤ 9223372036854775807) (w1 : -9223372036854775808 ≤ a0x1 ∧ a0x1 ≤ 9223372036854775807) (w2 : -9223372036854775808 ≤ a0x2 ∧ a0x2 ≤ 9223372036854775807)
    (w3 : -9223372036854775808 ≤ a1 ∧ a1 ≤ 9223372036854775807) (w4 : -9223372036854775808 ≤ a2 ∧ a2 ≤ 9223372036854775807) :
    Calls Try.prog 6 #[.agg #[.int .i64 a0x0, .int .i64 a0x1, .int .i64 a0x2], .int .i64 a1, .int .i64 a2] w fun e w' => e = .returned (.bool true) ∧ Below w.heap.size w w' := by
  obtain ⟨p, d, wk, fn, F⟩ := fit_sh a0x0 a0x1 a0x2 w0 w1 w2
  have r1 := F.right
  have p1 := F.ptrs
  have d1 := F.data
  obtain ⟨v, hv, Hv⟩ : ∃ v : Nat, v < 99 ∧ Hid (∀ w, Calls Try.prog 9 #[.int .i64 a2, .int .i64 99] w fun e w' => e = .returned (.int .i64 v) ∧ w = w') := by
    have p := pick_bounds a2 99 (by omega)
    refine ⟨(pickOf a2 99).toNat, by omega, fun w => ?_⟩
    rw [Int.toNat_of_nonneg p.1]
    exact pick_any a2 99 w w4.1 w4.2 (by omega) (by omega)
  clear w0 w1 w2
  go_enter Try.func6, Try.ntmps6
  go_wp2_with fail
  have h3 := BlkIs.new w #[.int .i64 a0x0, .int .i64 a0x1, .int .i64 a0x2] 22
  have hB := (Below.refl _ w).alloc (Nat.le_refl _) (.cells #[.int .i64 a0x0, .int .i64 a0x1, .int .i64 a0x2] 22)
  refine (awake_yes _).mono ?_
  rintro e x ⟨rfl, hb⟩
  replace h3 := h3.on hb
  replace hB := hB.trans (hb.mono hB.size)
  clear hb
  obtain ⟨c0, c1, c2, l2⟩ := h3.facts3
  go_wp2_with fail
  refine (row_any F F _).mono ?_
  rintro e x1 ⟨P, b, rfl, hA, hP, hb, hn⟩
  have hwb : w.heap.size ≤ b := by have := h3.lt; omega
  have O : ObjIs (rowL p d wk fn p d wk fn) (3 + p + d) p d wk fn false := madeL_obj 2 r1 p1 d1 (by rw [madeL_length, List.length_replicate]; omega)
  have hll : (rowL p d wk fn p d wk fn).length = 60 := by unfold rowL; rw [madeL_length, madeL_length, List.length_replicate]
  generalize rowL p d wk fn p d wk fn = L at *
  obtain ⟨q, hq⟩ : ∃ q, 3 + p + d = q := ⟨_, rfl⟩
  rw [hq] at O ⊢
  replace hB := hB.trans (hn.mono hB.size)
  clear hn hP hb h3 c0 c1 c2 l2 F
  have hltA := hA.lt
  have ho := ((Below.refl x1.heap.size x1).alloc (Nat.le_refl _) (.cells #[.int .i64 p, .int .i64 d, .bool wk, .bool fn] 27)).alloc (by simp) (.cells #[.int .i64 p, .int .i64 d, .bool wk, .bool fn] 27)
  replace hA := hA.below ho hltA.1 hltA.2
  replace hB := hB.trans (ho.mono hB.size)
  have h9 := (BlkIs.new x1 #[.int .i64 p, .int .i64 d, .bool wk, .bool fn] 27).alloc (.cells #[.int .i64 p, .int .i64 d, .bool wk, .bool fn] 27)
  have h9b : ¬ x1.heap.size = b := by omega
  clear ho hltA
  by_cases h2 : Int.tmod a2 2 = 0
  · go_wp2_with fail
    refine (pick_nat _ 10 _ w3.1 w3.2 (by omega) (by omega)).mono ?_
    rintro e x2 ⟨k', hk, rfl, rfl⟩
    obtain ⟨k, e1⟩ : ∃ k : Int, (k' : Int) - 1 = k := ⟨_, rfl⟩
    have i1 : IntKind.i64.wrap ((k' : Int) - 1) = k := by rw [IntWalk.i64_in _ (by omega)]; exact e1
    have k1 : -9223372036854775808 ≤ k ∧ k ≤ 9223372036854775807 := by omega
    clear e1
    by_cases hk0 : 0 ≤ k
    · have d0 : decide (0 ≤ k) = true := decide_eq_true hk0
      obtain ⟨f, rfl⟩ : ∃ f : Nat, k = f := ⟨k.toNat, by omega⟩
      by_cases hp : f < p
      · have d1 : decide ((f : Int) < (p : Int)) = true := decide_eq_true (by omega)
        by_cases hd : f < d
        · have d2 : decide ((f : Int) < (d : Int)) = true := decide_eq_true (by omega)
          have HV : ∀ w, Calls Try.prog 9 #[.int .i64 a2, .int .i64 99] w fun e w' => e = .returned (.int .i64 v) ∧ w = w' := Hv.out
          go_wp2_with fail
          refine (HV _).mono ?_
          rintro e x ⟨rfl, rfl⟩
          clear HV
          have M1 := setPtr_at q f v _ hA O hp (by omega)
          go_wp2_with fail
          refine M1.mono ?_
          rintro e y ⟨rfl, hA2, hc⟩
          replace h9 := h9.chg hc h9b
          replace hB := hB.trans (hc.below (fun k e => by omega) hB.size)
          clear hc M1 hA
          have hA := hA2
          clear hA2
          replace O := ObjIs.set O v (by omega : ¬ q + (3 + f) = q)
          have M1 := setNum_at q f a2 _ hA O hd w4.1 w4.2
          go_wp2_with fail
          refine M1.mono ?_
          rintro e y ⟨rfl, hA2, hc⟩
          replace h9 := h9.chg hc h9b
          replace hB := hB.trans (hc.below (fun k e => by omega) hB.size)
          clear hc M1 hA
          have hA := hA2
          clear hA2
          replace O := ObjIs.set O (zigOf a2) (by omega : ¬ q + (3 + p + f) = q)
          have E : ((L.set (q + (3 + f)) (v : Int)).set (q + (3 + p + f)) (zigOf a2)).getD (q + (3 + f)) 0 = (v : Int) := by rw [set_at' (by rw [List.length_set]; omega), if_neg (by omega), set_at' (by omega), if_pos rfl]
          have M1 := ptr_at q f _ hA O hp (by rw [E]; omega)
          rw [E] at M1
          clear E
          go_wp2_with fail
          refine M1.mono ?_
          rintro e y ⟨rfl, hb⟩
          replace h9 := h9.on hb
          replace hA := hA.below hb hA.lt.1 hA.lt.2
          replace hB := hB.trans (hb.mono hB.size)
          clear hb M1
          have M1 := num_at q f a2 _ hA O hd w4.1 w4.2 (by rw [set_at' (by rw [List.length_set]; omega), if_pos rfl])
          go_wp2_with fail
          refine M1.mono ?_
          rintro e y ⟨rfl, hb⟩
          replace h9 := h9.on hb
          replace hA := hA.below hb hA.lt.1 hA.lt.2
          replace hB := hB.trans (hb.mono hB.size)
          clear hb M1
          clear O hA h9
          have HV : ∀ w, Calls Try.prog 9 #[.int .i64 a2, .int .i64 99] w fun e w' => e = .returned (.int .i64 v) ∧ w = w' := Hv.out
          go_wp2_with fail
          refine (HV _).mono ?_
          rintro e x ⟨rfl, rfl⟩
          go_wp2
          go_ret
          exact ⟨by simp, hB⟩
        · have d2 : decide ((f : Int) < (d : Int)) = false := decide_eq_false (by omega)
          have HV : ∀ w, Calls Try.prog 9 #[.int .i64 a2, .int .i64 99] w fun e w' => e = .returned (.int .i64 v) ∧ w = w' := Hv.out
          go_wp2_with fail
          refine (HV _).mono ?_
          rintro e x ⟨rfl, rfl⟩
          clear HV
          have M1 := setPtr_at q f v _ hA O hp (by omega)
          go_wp2_with fail
          refine M1.mono ?_
          rintro e y ⟨rfl, hA2, hc⟩
          replace h9 := h9.chg hc h9b
          replace hB := hB.trans (hc.below (fun k e => by omega) hB.size)
          clear hc M1 hA
          have hA := hA2
          clear hA2
          replace O := ObjIs.set O v (by omega : ¬ q + (3 + f) = q)
          have M1 := setNum_no q f a2 _ hA O (by omega) (by omega) (by omega) w4.1 w4.2
          go_wp2_with fail
          refine M1.mono ?_
          rintro e y ⟨rfl, hb⟩
          replace h9 := h9.on hb
          replace hA := hA.below hb hA.lt.1 hA.lt.2
          replace hB := hB.trans (hb.mono hB.size)
          clear hb M1
          have E : (L.set (q + (3 + f)) (v : Int)).getD (q + (3 + f)) 0 = (v : Int) := by rw [set_at' (by omega), if_pos rfl]
          have M1 := ptr_at q f _ hA O hp (by rw [E]; omega)
          rw [E] at M1
          clear E
          go_wp2_with fail
          refine M1.mono ?_
          rintro e y ⟨rfl, hb⟩
          replace h9 := h9.on hb
          replace hA := hA.below hb hA.lt.1 hA.lt.2
          replace hB := hB.trans (hb.mono hB.size)
          clear hb M1
          have M1 := num_no q f _ hA O (by omega) (by omega) (by omega)
          go_wp2_with fail
          refine M1.mono ?_
          rintro e y ⟨rfl, hb⟩
          replace h9 := h9.on hb
          replace hA := hA.below hb hA.lt.1 hA.lt.2
          replace hB := hB.trans (hb.mono hB.size)
          clear hb M1
          clear O hA h9
          have HV : ∀ w, Calls Try.prog 9 #[.int .i64 a2, .int .i64 99] w fun e w' => e = .returned (.int .i64 v) ∧ w = w' := Hv.out
          go_wp2_with fail
          refine (HV _).mono ?_
          rintro e x ⟨rfl, rfl⟩
          go_wp2
          go_ret
          exact ⟨by simp, hB⟩
      · have d1 : decide ((f : Int) < (p : Int)) = false := decide_eq_false (by omega)
        by_cases hd : f < d
        · have d2 : decide ((f : Int) < (d : Int)) = true := decide_eq_true (by omega)
          have HV : ∀ w, Calls Try.prog 9 #[.int .i64 a2, .int .i64 99] w fun e w' => e = .returned (.int .i64 v) ∧ w = w' := Hv.out
          go_wp2_with fail
          refine (HV _).mono ?_
          rintro e x ⟨rfl, rfl⟩
          clear HV
          have M1 := setPtr_no q f v _ hA O (by omega) (by omega) (by omega)
          go_wp2_with fail
          refine M1.mono ?_
          rintro e y ⟨rfl, hb⟩
          replace h9 := h9.on hb
          replace hA := hA.below hb hA.lt.1 hA.lt.2
          replace hB := hB.trans (hb.mono hB.size)
          clear hb M1
          have M1 := setNum_at q f a2 _ hA O hd w4.1 w4.2
          go_wp2_with fail
          refine M1.mono ?_
          rintro e y ⟨rfl, hA2, hc⟩
          replace h9 := h9.chg hc h9b
          replace hB := hB.trans (hc.below (fun k e => by omega) hB.size)
          clear hc M1 hA
          have hA := hA2
          clear hA2
          replace O := ObjIs.set O (zigOf a2) (by omega : ¬ q + (3 + p + f) = q)
          have M1 := ptr_no q f _ hA O (by omega) (by omega) (by omega)
          go_wp2_with fail
          refine M1.mono ?_
          rintro e y ⟨rfl, hb⟩
          replace h9 := h9.on hb
          replace hA := hA.below hb hA.lt.1 hA.lt.2
          replace hB := hB.trans (hb.mono hB.size)
          clear hb M1
          have M1 := num_at q f a2 _ hA O hd w4.1 w4.2 (by rw [set_at' (by omega), if_pos rfl])
          go_wp2_with fail
          refine M1.mono ?_
          rintro e y ⟨rfl, hb⟩
          replace h9 := h9.on hb
          replace hA := hA.below hb hA.lt.1 hA.lt.2
          replace hB := hB.trans (hb.mono hB.size)
          clear hb M1
          clear O hA h9
          go_wp2
          go_ret
          exact ⟨by simp, hB⟩
        · have d2 : decide ((f : Int) < (d : Int)) = false := decide_eq_false (by omega)
          have HV : ∀ w, Calls Try.prog 9 #[.int .i64 a2, .int .i64 99] w fun e w' => e = .returned (.int .i64 v) ∧ w = w' := Hv.out
          go_wp2_with fail
          refine (HV _).mono ?_
          rintro e x ⟨rfl, rfl⟩
          clear HV
          have M1 := setPtr_no q f v _ hA O (by omega) (by omega) (by omega)
          go_wp2_with fail
          refine M1.mono ?_
          rintro e y ⟨rfl, hb⟩
          replace h9 := h9.on hb
          replace hA := hA.below hb hA.lt.1 hA.lt.2
          replace hB := hB.trans (hb.mono hB.size)
          clear hb M1
          have M1 := setNum_no q f a2 _ hA O (by omega) (by omega) (by omega) w4.1 w4.2
          go_wp2_with fail
          refine M1.mono ?_
          rintro e y ⟨rfl, hb⟩
          replace h9 := h9.on hb
          replace hA := hA.below hb hA.lt.1 hA.lt.2
          replace hB := hB.trans (hb.mono hB.size)
          clear hb M1
          have M1 := ptr_no q f _ hA O (by omega) (by omega) (by omega)
          go_wp2_with fail
          refine M1.mono ?_
          rintro e y ⟨rfl, hb⟩
          replace h9 := h9.on hb
          replace hA := hA.below hb hA.lt.1 hA.lt.2
          replace hB := hB.trans (hb.mono hB.size)
          clear hb M1
          have M1 := num_no q f _ hA O (by omega) (by omega) (by omega)
          go_wp2_with fail
          refine M1.mono ?_
          rintro e y ⟨rfl, hb⟩
          replace h9 := h9.on hb
          replace hA := hA.below hb hA.lt.1 hA.lt.2
          replace hB := hB.trans (hb.mono hB.size)
          clear hb M1
          clear O hA h9
          go_wp2
          go_ret
          exact ⟨by simp, hB⟩
    · have d0 : decide (0 ≤ k) = false := decide_eq_false hk0
      have HV : ∀ w, Calls Try.prog 9 #[.int .i64 a2, .int .i64 99] w fun e w' => e = .returned (.int .i64 v) ∧ w = w' := Hv.out
      go_wp2_with fail
      refine (HV _).mono ?_
      rintro e x ⟨rfl, rfl⟩
      clear HV
      have M1 := setPtr_no q k v _ hA O (by omega) (by omega) (by omega)
      go_wp2_with fail
      refine M1.mono ?_
      rintro e y ⟨rfl, hb⟩
      replace h9 := h9.on hb
      replace hA := hA.below hb hA.lt.1 hA.lt.2
      replace hB := hB.trans (hb.mono hB.size)
      clear hb M1
      have M1 := setNum_no q k a2 _ hA O (by omega) (by omega) (by omega) w4.1 w4.2
      go_wp2_with fail
      refine M1.mono ?_
      rintro e y ⟨rfl, hb⟩
      replace h9 := h9.on hb
      replace hA := hA.below hb hA.lt.1 hA.lt.2
      replace hB := hB.trans (hb.mono hB.size)
      clear hb M1
      have M1 := ptr_no q k _ hA O (by omega) (by omega) (by omega)
      go_wp2_with fail
      refine M1.mono ?_
      rintro e y ⟨rfl, hb⟩
      replace h9 := h9.on hb
      replace hA := hA.below hb hA.lt.1 hA.lt.2
      replace hB := hB.trans (hb.mono hB.size)
      clear hb M1
      have M1 := num_no q k _ hA O (by omega) (by omega) (by omega)
      go_wp2_with fail
      refine M1.mono ?_
      rintro e y ⟨rfl, hb⟩
      replace h9 := h9.on hb
      replace hA := hA.below hb hA.lt.1 hA.lt.2
      replace hB := hB.trans (hb.mono hB.size)
      clear hb M1
      clear O hA h9
      go_wp2
      go_ret
      exact ⟨by simp, hB⟩
  · obtain ⟨k, e1⟩ : ∃ k : Int, k = a1 := ⟨_, rfl⟩
    subst e1
    have k1 := w3
    by_cases hk0 : 0 ≤ k
    · have d0 : decide (0 ≤ k) = true := decide_eq_true hk0
      obtain ⟨f, rfl⟩ : ∃ f : Nat, k = f := ⟨k.toNat, by omega⟩
      by_cases hp : f < p
      · have d1 : decide ((f : Int) < (p : Int)) = true := decide_eq_true (by omega)
        by_cases hd : f < d
        · have d2 : decide ((f : Int) < (d : Int)) = true := decide_eq_true (by omega)
          have HV : ∀ w, Calls Try.prog 9 #[.int .i64 a2, .int .i64 99] w fun e w' => e = .returned (.int .i64 v) ∧ w = w' := Hv.out
          go_wp2_with fail
          refine (HV _).mono ?_
          rintro e x ⟨rfl, rfl⟩
          clear HV
          have M1 := setPtr_at q f v _ hA O hp (by omega)
          go_wp2_with fail
          refine M1.mono ?_
          rintro e y ⟨rfl, hA2, hc⟩
          replace h9 := h9.chg hc h9b
          replace hB := hB.trans (hc.below (fun k e => by omega) hB.size)
          clear hc M1 hA
          have hA := hA2
          clear hA2
          replace O := ObjIs.set O v (by omega : ¬ q + (3 + f) = q)
          have M1 := setNum_at q f a2 _ hA O hd w4.1 w4.2
          go_wp2_with fail
          refine M1.mono ?_
          rintro e y ⟨rfl, hA2, hc⟩
          replace h9 := h9.chg hc h9b
          replace hB := hB.trans (hc.below (fun k e => by omega) hB.size)
          clear hc M1 hA
          have hA := hA2
          clear hA2
          replace O := ObjIs.set O (zigOf a2) (by omega : ¬ q + (3 + p + f) = q)
          have E : ((L.set (q + (3 + f)) (v : Int)).set (q + (3 + p + f)) (zigOf a2)).getD (q + (3 + f)) 0 = (v : Int) := by rw [set_at' (by rw [List.length_set]; omega), if_neg (by omega), set_at' (by omega), if_pos rfl]
          have M1 := ptr_at q f _ hA O hp (by rw [E]; omega)
          rw [E] at M1
          clear E
          go_wp2_with fail
          refine M1.mono ?_
          rintro e y ⟨rfl, hb⟩
          replace h9 := h9.on hb
          replace hA := hA.below hb hA.lt.1 hA.lt.2
          replace hB := hB.trans (hb.mono hB.size)
          clear hb M1
          have M1 := num_at q f a2 _ hA O hd w4.1 w4.2 (by rw [set_at' (by rw [List.length_set]; omega), if_pos rfl])
          go_wp2_with fail
          refine M1.mono ?_
          rintro e y ⟨rfl, hb⟩
          replace h9 := h9.on hb
          replace hA := hA.below hb hA.lt.1 hA.lt.2
          replace hB := hB.trans (hb.mono hB.size)
          clear hb M1
          clear O hA h9
          have HV : ∀ w, Calls Try.prog 9 #[.int .i64 a2, .int .i64 99] w fun e w' => e = .returned (.int .i64 v) ∧ w = w' := Hv.out
          go_wp2_with fail
          refine (HV _).mono ?_
          rintro e x ⟨rfl, rfl⟩
          go_wp2
          go_ret
          exact ⟨by simp, hB⟩
        · have d2 : decide ((f : Int) < (d : Int)) = false := decide_eq_false (by omega)
          have HV : ∀ w, Calls Try.prog 9 #[.int .i64 a2, .int .i64 99] w fun e w' => e = .returned (.int .i64 v) ∧ w = w' := Hv.out
          go_wp2_with fail
          refine (HV _).mono ?_
          rintro e x ⟨rfl, rfl⟩
          clear HV
          have M1 := setPtr_at q f v _ hA O hp (by omega)
          go_wp2_with fail
          refine M1.mono ?_
          rintro e y ⟨rfl, hA2, hc⟩
          replace h9 := h9.chg hc h9b
          replace hB := hB.trans (hc.below (fun k e => by omega) hB.size)
          clear hc M1 hA
          have hA := hA2
          clear hA2
          replace O := ObjIs.set O v (by omega : ¬ q + (3 + f) = q)
          have M1 := setNum_no q f a2 _ hA O (by omega) (by omega) (by omega) w4.1 w4.2
          go_wp2_with fail
          refine M1.mono ?_
          rintro e y ⟨rfl, hb⟩
          replace h9 := h9.on hb
          replace hA := hA.below hb hA.lt.1 hA.lt.2
          replace hB := hB.trans (hb.mono hB.size)
          clear hb M1
          have E : (L.set (q + (3 + f)) (v : Int)).getD (q + (3 + f)) 0 = (v : Int) := by rw [set_at' (by omega), if_pos rfl]
          have M1 := ptr_at q f _ hA O hp (by rw [E]; omega)
          rw [E] at M1
          clear E
          go_wp2_with fail
          refine M1.mono ?_
          rintro e y ⟨rfl, hb⟩
          replace h9 := h9.on hb
          replace hA := hA.below hb hA.lt.1 hA.lt.2
          replace hB := hB.trans (hb.mono hB.size)
          clear hb M1
          have M1 := num_no q f _ hA O (by omega) (by omega) (by omega)
          go_wp2_with fail
          refine M1.mono ?_
          rintro e y ⟨rfl, hb⟩
          replace h9 := h9.on hb
          replace hA := hA.below hb hA.lt.1 hA.lt.2
          replace hB := hB.trans (hb.mono hB.size)
          clear hb M1
          clear O hA h9
          have HV : ∀ w, Calls Try.prog 9 #[.int .i64 a2, .int .i64 99] w fun e w' => e = .returned (.int .i64 v) ∧ w = w' := Hv.out
          go_wp2_with fail
          refine (HV _).mono ?_
          rintro e x ⟨rfl, rfl⟩
          go_wp2
          go_ret
          exact ⟨by simp, hB⟩
      · have d1 : decide ((f : Int) < (p : Int)) = false := decide_eq_false (by omega)
        by_cases hd : f < d
        · have d2 : decide ((f : Int) < (d : Int)) = true := decide_eq_true (by omega)
          have HV : ∀ w, Calls Try.prog 9 #[.int .i64 a2, .int .i64 99] w fun e w' => e = .returned (.int .i64 v) ∧ w = w' := Hv.out
          go_wp2_with fail
          refine (HV _).mono ?_
          rintro e x ⟨rfl, rfl⟩
          clear HV
          have M1 := setPtr_no q f v _ hA O (by omega) (by omega) (by omega)
          go_wp2_with fail
          refine M1.mono ?_
          rintro e y ⟨rfl, hb⟩
          replace h9 := h9.on hb
          replace hA := hA.below hb hA.lt.1 hA.lt.2
          replace hB := hB.trans (hb.mono hB.size)
          clear hb M1
          have M1 := setNum_at q f a2 _ hA O hd w4.1 w4.2
          go_wp2_with fail
          refine M1.mono ?_
          rintro e y ⟨rfl, hA2, hc⟩
          replace h9 := h9.chg hc h9b
          replace hB := hB.trans (hc.below (fun k e => by omega) hB.size)
          clear hc M1 hA
          have hA := hA2
          clear hA2
          replace O := ObjIs.set O (zigOf a2) (by omega : ¬ q + (3 + p + f) = q)
          have M1 := ptr_no q f _ hA O (by omega) (by omega) (by omega)
          go_wp2_with fail
          refine M1.mono ?_
          rintro e y ⟨rfl, hb⟩
          replace h9 := h9.on hb
          replace hA := hA.below hb hA.lt.1 hA.lt.2
          replace hB := hB.trans (hb.mono hB.size)
          clear hb M1
          have M1 := num_at q f a2 _ hA O hd w4.1 w4.2 (by rw [set_at' (by omega), if_pos rfl])
          go_wp2_with fail
          refine M1.mono ?_
          rintro e y ⟨rfl, hb⟩
          replace h9 := h9.on hb
          replace hA := hA.below hb hA.lt.1 hA.lt.2
          replace hB := hB.trans (hb.mono hB.size)
          clear hb M1
          clear O hA h9
          go_wp2
          go_ret
          exact ⟨by simp, hB⟩
        · have d2 : decide ((f : Int) < (d : Int)) = false := decide_eq_false (by omega)
          have HV : ∀ w, Calls Try.prog 9 #[.int .i64 a2, .int .i64 99] w fun e w' => e = .returned (.int .i64 v) ∧ w = w' := Hv.out
          go_wp2_with fail
          refine (HV _).mono ?_
          rintro e x ⟨rfl, rfl⟩
          clear HV
          have M1 := setPtr_no q f v _ hA O (by omega) (by omega) (by omega)
          go_wp2_with fail
          refine M1.mono ?_
          rintro e y ⟨rfl, hb⟩
          replace h9 := h9.on hb
          replace hA := hA.below hb hA.lt.1 hA.lt.2
          replace hB := hB.trans (hb.mono hB.size)
          clear hb M1
          have M1 := setNum_no q f a2 _ hA O (by omega) (by omega) (by omega) w4.1 w4.2
          go_wp2_with fail
          refine M1.mono ?_
          rintro e y ⟨rfl, hb⟩
          replace h9 := h9.on hb
          replace hA := hA.below hb hA.lt.1 hA.lt.2
          replace hB := hB.trans (hb.mono hB.size)
          clear hb M1
          have M1 := ptr_no q f _ hA O (by omega) (by omega) (by omega)
          go_wp2_with fail
          refine M1.mono ?_
          rintro e y ⟨rfl, hb⟩
          replace h9 := h9.on hb
          replace hA := hA.below hb hA.lt.1 hA.lt.2
          replace hB := hB.trans (hb.mono hB.size)
          clear hb M1
          have M1 := num_no q f _ hA O (by omega) (by omega) (by omega)
          go_wp2_with fail
          refine M1.mono ?_
          rintro e y ⟨rfl, hb⟩
          replace h9 := h9.on hb
          replace hA := hA.below hb hA.lt.1 hA.lt.2
          replace hB := hB.trans (hb.mono hB.size)
          clear hb M1
          clear O hA h9
          go_wp2
          go_ret
          exact ⟨by simp, hB⟩
    · have d0 : decide (0 ≤ k) = false := decide_eq_false hk0
      have HV : ∀ w, Calls Try.prog 9 #[.int .i64 a2, .int .i64 99] w fun e w' => e = .returned (.int .i64 v) ∧ w = w' := Hv.out
      go_wp2_with fail
      refine (HV _).mono ?_
      rintro e x ⟨rfl, rfl⟩
      clear HV
      have M1 := setPtr_no q k v _ hA O (by omega) (by omega) (by omega)
      go_wp2_with fail
      refine M1.mono ?_
      rintro e y ⟨rfl, hb⟩
      replace h9 := h9.on hb
      replace hA := hA.below hb hA.lt.1 hA.lt.2
      replace hB := hB.trans (hb.mono hB.size)
      clear hb M1
      have M1 := setNum_no q k a2 _ hA O (by omega) (by omega) (by omega) w4.1 w4.2
      go_wp2_with fail
      refine M1.mono ?_
      rintro e y ⟨rfl, hb⟩
      replace h9 := h9.on hb
      replace hA := hA.below hb hA.lt.1 hA.lt.2
      replace hB := hB.trans (hb.mono hB.size)
      clear hb M1
      have M1 := ptr_no q k _ hA O (by omega) (by omega) (by omega)
      go_wp2_with fail
      refine M1.mono ?_
      rintro e y ⟨rfl, hb⟩
      replace h9 := h9.on hb
      replace hA := hA.below hb hA.lt.1 hA.lt.2
      replace hB := hB.trans (hb.mono hB.size)
      clear hb M1
      have M1 := num_no q k _ hA O (by omega) (by omega) (by omega)
      go_wp2_with fail
      refine M1.mono ?_
      rintro e y ⟨rfl, hb⟩
      replace h9 := h9.on hb
      replace hA := hA.below hb hA.lt.1 hA.lt.2
      replace hB := hB.trans (hb.mono hB.size)
      clear hb M1
      clear O hA h9
      go_wp2
      go_ret
      exact ⟨by simp, hB⟩

set_option maxRecDepth 100000 in
theorem lifted (os : Os) (started : os.Started) (H : Type) (enc : TypeId × Value → H) :
    ReturnsInHanded {} Try.checked os 6 .any (Rows.objectFieldsSpec.pre6 enc Try.prog Try.f6 Rows.objectFieldsRow.domain false) (Rows.objectFieldsSpec.post enc Try.prog Try.f6 false true false false) := by
  refine returnsInHanded_of_change (C := Try.checked) own started (by kernel_rfl) Try.func6
    (ChangeSpec.witness6 (enc := enc) (C := Try.checked) false ⟨#[], #[.agg #[.int .i64 0, .int .i64 0, .int .i64 0], .int .i64 0, .int .i64 0], []⟩ 8 (by kernel_rfl) (by kernel_rfl) (by kernel_rfl) (by kernel_rfl)) ?_
  intro W base args ds gs before hval0 hW hcnd _
  have hval : ∀ (j : Nat) t v, Try.f6.params[j]? = some t → args[j]? = some v → Value.okWide Try.prog W .any base t v := hval0
  have hW' := hW
  obtain ⟨p, q, hA0, hV, rfl, hfz, hnd⟩ := hW
  have hA : DataW.TrodAll enc Try.prog W 0 (fun _ => true) true Try.f6.params.toList args.toList ds p := hA0
  rw [Try.params6] at hA hval
  obtain ⟨v0, vs0, d0, ds0, p0, q0, hargs, rfl, rfl, h0, r0⟩ := trodAll_cons hA
  obtain ⟨v1, vs1, d1, ds1, p1, q1, rfl, rfl, rfl, h1, r1⟩ := trodAll_cons r0
  obtain ⟨v2, vs2, d2, ds2, p2, q2, rfl, rfl, rfl, h2, r2⟩ := trodAll_cons r1
  obtain ⟨rfl, rfl, rfl⟩ := trodAll_nil r2
  obtain rfl : args = #[v0, v1, v2] := by cases args; simp_all
  obtain ⟨rfl, rfl⟩ := trodVars_none hV
  have k0 := h0
  have lt0 : ∀ x ∈ p0, x.block < W.heap.size := by obtain ⟨m, hm⟩ := k0; exact DataW.trod_lt m _ _ _ hm
  have ce0 : Try.prog.cellsOf 3 = 1 := by kernel_rfl
  have cc0 : Try.prog.cellsOf 22 = 3 := by kernel_rfl
  have x0 := open_ints_array Try.underlying22 Try.underlying3 ce0 cc0 (hval 0 22 v0 rfl rfl) h0
  obtain ⟨z0, hl0, hv0, hz0⟩ := x0
  subst hv0
  have y0 := list3 hl0
  obtain ⟨a0x0, a0x1, a0x2, hy0⟩ := y0
  subst hy0
  have w0x0 := bounds_i64 (hz0 a0x0 (by simp))
  have w0x1 := bounds_i64 (hz0 a0x1 (by simp))
  have w0x2 := bounds_i64 (hz0 a0x2 (by simp))
  obtain ⟨a1, rfl, rfl, rfl, w1⟩ := open_int Try.underlying3 (hval 1 3 v1 rfl rfl) h1
  obtain ⟨a2, rfl, rfl, rfl, w2⟩ := open_int Try.underlying3 (hval 2 3 v2 rfl rfl) h2
  clear hA0 hval0
  refine (walk a0x0 a0x1 a0x2 a1 a2 W w0x0 w0x1 w0x2 (bounds_i64 w1) (bounds_i64 w2)).mono fun e W' ⟨he, bel⟩ => ?_
  subst he
  exact ⟨_, rfl, _, _, _, [], _, [], hW', trodAll_mk1 (shut_bool Try.underlying4 _), (trodAll_cons_mk (Below.trod laidOut (by kernel_rfl) (of_decide_eq_true (by kernel_rfl)) k0 bel lt0) (trodAll_cons_mk (shut_int Try.underlying3 w1) (trodAll_cons_mk (shut_int Try.underlying3 w2) trodAll_mk0))), rfl, bel.frame _, fun h => by cases h⟩

theorem over : Rows.objectFieldsRow.holds Try.pinned (OpenSpec.ofChange Rows.objectFieldsSpec) :=
  OpenClaim.holds_of_wide 6 Try.f6 rfl rfl rfl rfl rfl rfl rfl ⟨rfl, rfl, rfl, rfl, rfl⟩ rfl rfl rfl rfl rfl (by kernel_rfl) Try.func6 (by kernel_rfl)
    (of_decide_eq_true (by kernel_rfl)) (by unfold Func.isWrapper; first | (rw [if_pos (by decide +kernel)]; kernel_rfl) | (rw [if_neg (by decide +kernel)]; exact ⟨rfl, rfl⟩))
    (fun os started H enc _ => lifted os started H enc)

theorem proved : Rows.ObjectFieldsSaid := over
#print axioms proved

end Go.Proofs.Ytencoabgdnmbaaa.objectFields
