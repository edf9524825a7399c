/- For every raw objects and roots: roots told twice, or nothing among them, change nothing; what one comes to from more roots has all that one comes to from fewer: the law GraphRoots returns true and its arguments read as they did. No condition. -/
import Derived.Test.YtceedbkacbaaiaaAppend
namespace Go.Proofs.Ytceedbkacbaaiaa.graphRoots
open Go.ChangeShapes Go.WideShapes Go.ChangeAt Go.RowKit
set_option linter.unusedVariables false
set_option linter.unusedSimpArgs false

theorem own_lit {w : World} {base g : Nat} {xs : List Int} (h : BlkIs w g (xs.map (Value.int .i64)).toArray 3) (hb : base ≤ g) (hl : xs.length ≤ 100) : w.ownsRow base 3 1 (.slice (some ⟨g, 0, none⟩) xs.length xs.length) xs.length (xs.map (Value.int .i64)) :=
  ⟨by simp, .inr ⟨g, xs.length, _, rfl, hb, h, Nat.le_refl _, by unfold maxLen; omega, by simp, by simp [List.take_of_length_le]⟩⟩

set_option maxRecDepth 100000 in
set_option maxHeartbeats 8000000 in
theorem walk (a0 : Option Addr) (len0 cap0 : Nat) (z0 : Nat → RawN) (a1 : Option Addr) (len1 cap1 : Nat) (z1 : List Int) (a2 : Option Addr) (len2 cap2 : Nat) (z2 : List Int) (w : World) (hR : RawsAt w.heap.size w a0 len0 z0) (h1 : IsRow .i64 w a1 len1 cap1 z1) (h2 : IsRow .i64 w a2 len2 cap2 z2) :
    Calls Try.prog 5 #[.slice a0 len0 cap0, .slice a1 len1 cap1, .slice a2 len2 cap2] w fun e w' => e = .returned (.bool true) ∧ Below w.heap.size w w' := by
  have hmm := @run_makeMap Try.prog
  have hr1 := rowAt_of h1
  have hr2 := rowAt_of h2
  clear h1 h2
  obtain ⟨n₀, hn0⟩ : ∃ n, w.heap.size = n := ⟨_, rfl⟩
  have Hn0 := Lib.hid hn0
  rw [hn0] at hR hr1 hr2
  clear hn0
  go_enter Try.func5, Try.ntmps5
  go_wp2_with fail
  refine (awake_yes _).mono ?_
  rintro e x ⟨rfl, hB⟩
  go_wp2_with fail
  refine (new_any 200 _ (by omega) (by omega)).mono ?_
  rintro e x1 ⟨P, b, rfl, hA, hP, hb, hn⟩
  have hxs := hB.size
  have hwb : n₀ ≤ b := by have := Hn0.out; omega
  replace hB := hB.trans (hn.mono hB.size)
  have hB0 : Below n₀ w x1 := by rw [Hn0.out] at hB; exact hB
  have hs1 := hB0.size
  have hx1 : n₀ ≤ x1.heap.size := by have := Hn0.out; omega
  clear hn hP hb hxs
  have hab := hA.lt.2
  have M1 := lay_more n₀ P b 200 len0 cap0 a0 z0 _ x1 hA List.length_replicate (by omega) hwb hx1 (hR.below hB0)
  clear hA
  go_wp2_with fail
  refine M1.mono ?_
  rintro e x2 ⟨sv, m, os, l, rfl, hm, hA, hl, hobs, hoff, hown, hc, hml, hser, hl0⟩
  replace hB0 := hB0.trans (hc.below (fun k e => by omega) hx1)
  have hx2 := hc.size
  clear hc M1 hB
  obtain ⟨wa, wc, rfl, hwh⟩ := where_of hown
  have M1 := link_any n₀ P b m len0 cap0 a0 wa wc z0 os l x2 hA hwb (by omega) (hR.below hB0) hml hm hobs hoff (fun h => by
    obtain ⟨g, e, h1, h2, h3, h4⟩ := hwh h
    exact ⟨g, e, h1, h2, by omega, h4⟩)
  clear hown
  go_wp2_with fail
  refine M1.mono ?_
  rintro e x3 ⟨l', rfl, hA3, hL, hc⟩
  replace hB0 := hB0.trans (hc.below (fun k e => by omega) (by omega))
  have hV := objV_linked hobs hL hser hm
  have hl' : l'.length = 200 := by rw [hL.len]; exact hl
  have hw3 : 0 < m → ∃ g, wa = some ⟨g, 0, none⟩ ∧ m ≤ wc ∧ g < x3.heap.size ∧ ∀ j, j < m → x3.cell? ⟨g, j, none⟩ = some (.int .i64 (1 + off os j : Nat)) := fun h => by
    obtain ⟨g, e, h1, h2, h3, h4⟩ := hwh h
    exact ⟨g, e, h1, Nat.lt_of_lt_of_le h2 hc.size, fun j hj => (hc.cell (p := ⟨g, j, none⟩) h2 (by show ¬ g = b; omega)).trans (h4 j hj)⟩
  have hx3 := hc.size
  clear hc M1 hwh hA hL hser hobs hl0 hl
  have M1 := roots_any n₀ m len1 cap1 a1 wa wc (fun j => z1.getD j 0) (fun j => 1 + off os j) x3 (by omega) (hr1.below hB0) hm hw3
  go_wp2_with fail
  refine M1.mono ?_
  rintro e x4 ⟨rv, rs, rfl, hrl, hri, hro, hb⟩
  have hrr := readsAs_of_owns hro
  have hA4 := hA3.below hb hA3.lt.1 hA3.lt.2
  replace hB0 := hB0.trans (hb.mono (by omega))
  have hw4 : 0 < m → ∃ g, wa = some ⟨g, 0, none⟩ ∧ m ≤ wc ∧ g < x4.heap.size ∧ ∀ j, j < m → x4.cell? ⟨g, j, none⟩ = some (.int .i64 (1 + off os j : Nat)) := fun h => by
    obtain ⟨g, e, h1, h2, h4⟩ := hw3 h
    exact ⟨g, e, h1, Nat.lt_of_lt_of_le h2 hb.size, fun j hj => (hb.cell (p := ⟨g, j, none⟩) h2).trans (h4 j hj)⟩
  have hx4 := hb.size
  clear hb M1 hw3 hro hA3
  have M1 := roots_any n₀ m len2 cap2 a2 wa wc (fun j => z2.getD j 0) (fun j => 1 + off os j) x4 (by omega) (hr2.below hB0) hm hw4
  go_wp2_with fail
  refine M1.mono ?_
  rintro e x5 ⟨tv, ts, rfl, htl, hti, hto, hb⟩
  have htr := readsAs_of_owns hto
  have hA5 := hA4.below hb hA4.lt.1 hA4.lt.2
  replace hB0 := hB0.trans (hb.mono (by omega))
  replace hrr := hrr.below hb
  have hx5 := hb.size
  clear hb M1 hw4 hto hA4
  have hri' := roots_in hri
  have hti' := roots_in hti
  clear hri hti
  generalize plZ os 1 m = V at *
  have hG : Grph P b l' V (gOf l') := grph_of hV (by omega)
  have hsh := hG.shut
  have I1 := reachO_inv (G := gOf l') hri' hsh
  have I3 := reachO_inv (G := gOf l') (V := V) (r := rs ++ ts) (fun x hx => (List.mem_append.1 hx).elim (hri' x) (hti' x)) hsh
  have hsub := inv_grow I1 I3 (fun x hx => List.mem_append_left _ hx)
  have hle := nodup_len I1.ord.1 hsub
  have hR8 := I3.len
  have hV8 := hG.len
  have M1 := Reach_any P b l' V (gOf l') rv rs x5 hG hA5 hrr hri' (by omega)
  have HM := fun y v (hy : ArenaAt 65 y P b l') (hv : ReadsAs .i64 y v ([0] ++ rs ++ [0] ++ rs)) => Reach_any P b l' V (gOf l') v ([0] ++ rs ++ [0] ++ rs) y hG hy hv (fun x hx => by
    rcases List.mem_append.1 hx with h | h
    · rcases List.mem_append.1 h with h | h
      · rcases List.mem_append.1 h with h | h
        · exact .inl (by simpa using h)
        · exact hri' x h
      · exact .inl (by simpa using h)
    · exact hri' x h) (by simp; omega)
  have HK := fun y v (hy : ArenaAt 65 y P b l') (hv : ReadsAs .i64 y v (rs ++ ts)) => Reach_any P b l' V (gOf l') v (rs ++ ts) y hG hy hv (fun x hx => (List.mem_append.1 hx).elim (hri' x) (hti' x)) (by simp; omega)
  simp only [reachO_again] at HM
  have hb1 : ∀ x ∈ reachO (gOf l') V.length rs, -9223372036854775808 ≤ x ∧ x ≤ 9223372036854775807 := fun x hx => hG.bound (.inr (I1.sub x hx))
  have hb3 : ∀ x ∈ reachO (gOf l') V.length (rs ++ ts), -9223372036854775808 ≤ x ∧ x ≤ 9223372036854775807 := fun x hx => hG.bound (.inr (I3.sub x hx))
  have hr18 := I1.len
  generalize reachO (gOf l') V.length rs = R1 at *
  generalize reachO (gOf l') V.length (rs ++ ts) = R3 at *
  clear hG hsh I1 I3 hri' hti' hV
  go_wp2_with fail
  refine M1.mono ?_
  rintro e x6 ⟨lv, rfl, hlo, hb⟩
  have hlr := readsAs_of_owns hlo
  have hA6 := hA5.below hb hA5.lt.1 hA5.lt.2
  replace hB0 := hB0.trans (hb.mono (by omega))
  replace hrr := hrr.below hb
  replace htr := htr.below hb
  have hx6 := hb.size
  clear hb M1 hlo hA5
  obtain ⟨B6, hB6⟩ : ∃ B, x6.heap.size = B := ⟨_, rfl⟩
  have HB6 := Lib.hid hB6
  have keep : ∀ (v : Value) (xs : List Int), ReadsAs .i64 x6 v xs → ∀ y, Chg (fun c => B6 ≤ c) x6 y → ReadsAs .i64 y v xs := fun v xs h y hc => h.chg hc fun g hg => by have := h.block hg; omega
  have Keep := Lib.hid keep
  have hlit := own_lit (base := B6) (xs := [0]) (BlkIs.new x6 #[.int .i64 0] 3) (by omega) (by decide)
  have hc0 := (Chg.refl (fun c => B6 ≤ c) x6).alloc (.cells #[.int .i64 0] 3)
  have hrr6 := keep _ _ hrr _ hc0
  have hsz6 : B6 ≤ (x6.alloc (.cells #[.int .i64 0] 3)).heap.size := by simp; omega
  clear keep hB6
  go_wp2_with (at_builtin; first
    | (refine wpList_append_reads rfl _ _ rfl B6 (.slice (some ⟨x6.heap.size, 0, none⟩) 1 1) rv [0] rs rfl hlit rfl hrr6 (by simp; omega) hsz6 ?_; intro v1 w1 ho1 hg1
       have hc1 := hc0.trans (chg_of_append hlit hg1)
       have hs1' : B6 ≤ w1.heap.size := Nat.le_trans hsz6 hg1.size
       have hl1 := readsAs_lit (xs := [0]) (BlkIs.new w1 #[.int .i64 0] 3) (by decide)
       have ho1' := ho1.alloc (.cells #[.int .i64 0] 3)
       have hs1'' : B6 ≤ (w1.alloc (.cells #[.int .i64 0] 3)).heap.size := by simp; omega)
    | (refine wpList_append_reads rfl _ _ rfl B6 _ _ ([0] ++ rs) [0] rfl ho1' rfl hl1 (by simp; omega) hs1'' ?_; intro v2 w2 ho2 hg2
       have hc2 := (hc1.alloc _).trans (chg_of_append ho1' hg2)
       have hs2' : B6 ≤ w2.heap.size := Nat.le_trans hs1'' hg2.size
       have hrr2 := Keep.out _ _ hrr _ hc2)
    | (refine wpList_append_reads rfl _ _ rfl B6 _ rv ([0] ++ rs ++ [0]) rs rfl ho2 rfl hrr2 (by simp; omega) hs2' ?_; intro v3 w3 ho3 hg3
       have hc3 := hc2.trans (chg_of_append ho2 hg3)))
  have hl6 := hA6.lt
  have hA7 := hA6.chg hc3 (by have := HB6.out; omega) (by have := HB6.out; omega)
  have hw6 := hB0.size
  have hB6w : n₀ ≤ B6 := by have := HB6.out; have := Hn0.out; omega
  have hB7 := hB0.trans (hc3.below (n := n₀) (fun k (e : B6 ≤ k) => by omega) (by have := HB6.out; omega))
  have hlr7 := Keep.out _ _ hlr _ hc3
  have hrr7 := Keep.out _ _ hrr _ hc3
  have htr7 := Keep.out _ _ htr _ hc3
  have hs7 : n₀ ≤ w3.heap.size := by have := hc3.size; have := HB6.out; omega
  refine (HM w3 v3 hA7 (readsAs_of_owns ho3)).mono ?_
  clear hlit hc0 hrr6 hsz6 hc1 hl1 ho1' hs1'' hs1' hc2 hs2' hrr2 ho1 ho2 ho3 hg1 hg2 hg3 hlr hrr htr hA6 hl6 Keep hB0
  rintro e x7 ⟨mv, rfl, hmo, hb⟩
  have hmr := readsAs_of_owns hmo
  replace hA7 := hA7.below hb hA7.lt.1 hA7.lt.2
  replace hB7 := hB7.trans (hb.mono hs7)
  replace hlr7 := hlr7.below hb
  replace hrr7 := hrr7.below hb
  replace htr7 := htr7.below hb
  have hs8 : n₀ ≤ x7.heap.size := Nat.le_trans hs7 hb.size
  clear hmo hb hc3 HB6
  obtain ⟨B7, hB7e⟩ : ∃ B, x7.heap.size = B := ⟨_, rfl⟩
  have HB7 := Lib.hid hB7e
  have keep : ∀ (v : Value) (xs : List Int), ReadsAs .i64 x7 v xs → ∀ y, Chg (fun c => B7 ≤ c) x7 y → ReadsAs .i64 y v xs := fun v xs h y hc => h.chg hc fun g hg => by have := h.block hg; omega
  have Keep := Lib.hid keep
  have hsz7 : B7 ≤ x7.heap.size := by omega
  have ho0 := World.ownsRow_nil x7 B7 3 1
  have hA8 := fun y (hc : Chg (fun c => B7 ≤ c) x7 y) => hA7.chg hc (show ¬ B7 ≤ P by have := hA7.lt; omega) (show ¬ B7 ≤ b by have := hA7.lt; omega)
  clear keep hB7e
  go_wp2_with (at_builtin; first
    | (refine wpList_append_reads rfl _ _ rfl B7 (.slice none 0 0) rv [] rs rfl ho0 rfl hrr7 (by simp; omega) hsz7 ?_; intro v1 w1 ho1 hg1
       have hc1 := (Chg.refl (fun c => B7 ≤ c) x7).trans (chg_of_append ho0 hg1)
       have hs1' : B7 ≤ w1.heap.size := Nat.le_trans hsz7 hg1.size
       have htr1 := Keep.out _ _ htr7 _ hc1)
    | (refine wpList_append_reads rfl _ _ rfl B7 _ tv ([] ++ rs) ts rfl ho1 rfl htr1 (by simp; omega) hs1' ?_; intro v2 w2 ho2 hg2
       have hc2 := hc1.trans (chg_of_append ho1 hg2)))
  have hB8 := hB7.trans (hc2.below (n := n₀) (fun k (e : B7 ≤ k) => by have := HB7.out; omega) (by omega))
  have hlr8 := Keep.out _ _ hlr7 _ hc2
  have hmr8 := Keep.out _ _ hmr _ hc2
  have hs9 : n₀ ≤ w2.heap.size := by have := hc2.size; omega
  refine (HK w2 v2 (hA8 _ hc2) (readsAs_of_owns ho2)).mono ?_
  rintro e x8 ⟨kv, rfl, hko, hb⟩
  have hkr := readsAs_of_owns hko
  replace hB8 := hB8.trans (hb.mono hs9)
  replace hlr8 := hlr8.below hb
  replace hmr8 := hmr8.below hb
  have hs10 : n₀ ≤ x8.heap.size := Nat.le_trans hs9 hb.size
  clear ho0 hc1 hs1' htr1 hc2 ho1 ho2 hg1 hg2 hko hb HB7 hA8 hA7 hB7 hlr7 hrr7 htr7 hmr HM HK Keep hsz7 hs9 hs8 hs7
  go_wp2_with fail
  refine (ints_same lv mv R1 x8 hlr8 hmr8).mono ?_
  rintro e x9 ⟨rfl, hb⟩
  replace hB8 := hB8.trans (hb.mono hs10)
  replace hlr8 := hlr8.below hb
  replace hkr := hkr.below hb
  clear hb hmr8 hs10 x8
  have hs9 := hB8.size
  obtain ⟨la, lc, rfl, hlc⟩ := hlr8.slice
  obtain ⟨ka, kc, rfl, hkc⟩ := hkr.slice
  have Hlc := Lib.hid hlc
  have Hkc := Lib.hid hkc
  have t1 : decide ((R3.length : Int) < (R1.length : Int)) = false := decide_eq_false (by omega)
  have t2 : decide (R3.length < R1.length) = false := decide_eq_false (by omega)
  have km := BMap.new x9
  have hba := (Below.refl x9.heap.size x9).alloc (Nat.le_refl _) (.map #[] 0)
  clear hlc hkc hlr8 hkr
  go_wp2
  obtain ⟨mp, hmp⟩ : ∃ q, x9.heap.size = q := ⟨_, rfl⟩
  obtain ⟨wo, hwo⟩ : ∃ wo, x9.alloc (.map #[] 0) = wo := ⟨_, rfl⟩
  rw [hmp, hwo] at km
  rw [hwo] at hba
  rw [hmp, hwo]
  have Hmp := Lib.hid hmp
  have hB9 := hB8.trans (hba.mono (by have := Hn0.out; omega))
  have Hba := Lib.hid hba
  clear hmp hwo hba hB8
  go_loopw [20] (fun i wr => ∃ k : Nat, k ≤ R3.length ∧ i = .int .i64 k ∧ BMap wr mp k (fun x => decide (x ∈ R3.take k)) ∧ Chg (· = mp) wo wr) (fun i _ => R3.length - (intOf i).toNat)
  case atStart => exact ⟨0, by omega, rfl, km.same (fun x => by simp), Chg.refl _ _⟩
  case round =>
    clear km
    obtain ⟨k, hk, rfl, km, hch⟩ := hrel
    by_cases hlt : k < R3.length
    · obtain ⟨g, rfl, hgl, hgc, hgr⟩ := Hkc.out (by omega)
      have hbx := hb3 _ (getD_mem hlt)
      have Ht : Hid (R3.take (k + 1) = R3.take k ++ [R3.getD k 0]) := Lib.hid (by rw [List.take_succ_eq_append_getElem hlt]; simp [List.getD, hlt])
      have c1 := (hch.cell (p := ⟨g, k, none⟩) (Nat.lt_of_lt_of_le hgl Hba.out.size) (by have := Hmp.out; show ¬ g = mp; omega)).trans ((Hba.out.cell (p := ⟨g, k, none⟩) hgl).trans (hgr k hlt))
      generalize R3.getD k 0 = x at *
      have b0 : (0 : Int) ≤ (k : Int) := by omega
      have b1 : (k : Int) < (R3.length : Int) := by omega
      clear hgr
      go_wp2_with (at_mapUpdate; refine wpList_bmap_store rfl _ _ _ rfl rfl km (by unfold maxLen; omega) rfl rfl hbx ?_; intro w1 km1 hc1)
      go_roundw
      case rel => exact ⟨k + 1, by omega, by go_num, km1.same (fun y => by rw [Ht.out]; by_cases e : y = x <;> simp [e]), hch.trans hc1⟩
      case measure => simp [intOf]; omega
    · obtain rfl : k = R3.length := by omega
      rw [List.take_length] at km
      go_wp2
      go_loop [21] (fun i => ∃ j : Nat, j ≤ R1.length ∧ i = .int .i64 j) (fun i => R1.length - (intOf i).toNat)
      case atStart => exact ⟨0, by omega, rfl⟩
      case round =>
        obtain ⟨j, hj, rfl⟩ := hrel
        by_cases hlt2 : j < R1.length
        · obtain ⟨g, rfl, hgl, hgc, hgr⟩ := Hlc.out (by omega)
          have hbx := hb1 _ (getD_mem hlt2)
          have hin := decide_eq_true (hsub _ (getD_mem hlt2))
          have c1 := (hch.cell (p := ⟨g, j, none⟩) (Nat.lt_of_lt_of_le hgl Hba.out.size) (by have := Hmp.out; show ¬ g = mp; omega)).trans ((Hba.out.cell (p := ⟨g, j, none⟩) hgl).trans (hgr j hlt2))
          generalize R1.getD j 0 = x at *
          have b0 : (0 : Int) ≤ (j : Int) := by omega
          have b1 : (j : Int) < (R1.length : Int) := by omega
          clear hgr
          go_wp2_with (at_lookup; refine wpList_bmap_look rfl _ _ rfl rfl km rfl hbx hin ?_)
          go_round
          case rel => exact ⟨j + 1, by omega, by go_num⟩
          case measure => simp [intOf]; omega
        · go_wp2
          go_ret
          refine ⟨rfl, ?_⟩
          have hs := hB9.size
          have e := Hn0.out
          rw [e]
          exact hB9.trans (hch.below (fun k e => by have := Hmp.out; omega) (by omega))

set_option maxRecDepth 100000 in
theorem lifted (os : Os) (started : os.Started) (H : Type) (enc : TypeId × Value → H) :
    ReturnsInHanded {} Try.checked os 5 .any (Rows.graphRootsSpec.pre6 enc Try.prog Try.f5 Rows.graphRootsRow.domain false) (Rows.graphRootsSpec.post enc Try.prog Try.f5 false true false false) := by
  refine returnsInHanded_of_change (C := Try.checked) own started (by kernel_rfl) Try.func5
    (ChangeSpec.witness6 (enc := enc) (C := Try.checked) false ⟨#[], #[.slice none 0 0, .slice none 0 0, .slice none 0 0], []⟩ 8 (by kernel_rfl) (by kernel_rfl) (by kernel_rfl) (by kernel_rfl)) ?_
  intro W base args ds gs before hval0 hW hcnd _
  have hval : ∀ (j : Nat) t v, Try.f5.params[j]? = some t → args[j]? = some v → Value.okWide Try.prog W .any base t v := hval0
  have hW' := hW
  obtain ⟨p, q, hA0, hV, rfl, hfz, hnd⟩ := hW
  have hA : DataW.TrodAll enc Try.prog W 0 (fun _ => true) true Try.f5.params.toList args.toList ds p := hA0
  rw [Try.params5] at hA hval
  obtain ⟨v0, vs0, d0, ds0, p0, q0, hargs, rfl, rfl, h0, r0⟩ := trodAll_cons hA
  obtain ⟨v1, vs1, d1, ds1, p1, q1, rfl, rfl, rfl, h1, r1⟩ := trodAll_cons r0
  obtain ⟨v2, vs2, d2, ds2, p2, q2, rfl, rfl, rfl, h2, r2⟩ := trodAll_cons r1
  obtain ⟨rfl, rfl, rfl⟩ := trodAll_nil r2
  obtain rfl : args = #[v0, v1, v2] := by cases args; simp_all
  obtain ⟨rfl, rfl⟩ := trodVars_none hV
  obtain ⟨a0, len0, cap0, rfl⟩ := okWide_slice Try.underlying22 (hval 0 22 v0 rfl rfl)
  have k0 := h0
  have lt0 : ∀ x ∈ p0, x.block < W.heap.size := by obtain ⟨m, hm⟩ := k0; exact DataW.trod_lt m _ _ _ hm
  obtain ⟨y0, y0p⟩ := open_nests (n := 8) (ks := rawKinds) Try.underlying22 (by kernel_rfl) (by kernel_rfl) (by decide) h0
  obtain ⟨z0, w0⟩ := raws_of_nest y0p
  obtain ⟨a1, len1, cap1, rfl⟩ := okWide_slice Try.underlying23 (hval 1 23 v1 rfl rfl)
  have k1 := h1
  have lt1 : ∀ x ∈ p1, x.block < W.heap.size := by obtain ⟨m, hm⟩ := k1; exact DataW.trod_lt m _ _ _ hm
  obtain ⟨z1, w1⟩ := open_row Try.underlying23 Try.underlying3 (by kernel_rfl) h1
  obtain ⟨a2, len2, cap2, rfl⟩ := okWide_slice Try.underlying23 (hval 2 23 v2 rfl rfl)
  have k2 := h2
  have lt2 : ∀ x ∈ p2, x.block < W.heap.size := by obtain ⟨m, hm⟩ := k2; exact DataW.trod_lt m _ _ _ hm
  obtain ⟨z2, w2⟩ := open_row Try.underlying23 Try.underlying3 (by kernel_rfl) h2
  clear hA0 hval0
  refine (walk a0 len0 cap0 z0 a1 len1 cap1 z1 a2 len2 cap2 z2 W w0 w1 w2).mono fun e W' ⟨he, bel⟩ => ?_
  subst he
  exact ⟨_, rfl, _, _, _, [], _, [], hW', trodAll_mk1 (shut_bool Try.underlying4 _), (trodAll_cons_mk (Below.trod laidOut (by kernel_rfl) (of_decide_eq_true (by kernel_rfl)) k0 bel lt0) (trodAll_cons_mk (Below.trod laidOut (by kernel_rfl) (of_decide_eq_true (by kernel_rfl)) k1 bel lt1) (trodAll_cons_mk (Below.trod laidOut (by kernel_rfl) (of_decide_eq_true (by kernel_rfl)) k2 bel lt2) trodAll_mk0))), rfl, bel.frame _, fun h => by cases h⟩

theorem over : Rows.graphRootsRow.holds Try.pinned (OpenSpec.ofChange Rows.graphRootsSpec) :=
  OpenClaim.holds_of_wide 5 Try.f5 rfl rfl rfl rfl rfl rfl rfl ⟨rfl, rfl, rfl, rfl, rfl⟩ rfl rfl rfl rfl rfl (by kernel_rfl) Try.func5 (by kernel_rfl)
    (of_decide_eq_true (by kernel_rfl)) (by unfold Func.isWrapper; first | (rw [if_pos (by decide +kernel)]; kernel_rfl) | (rw [if_neg (by decide +kernel)]; exact ⟨rfl, rfl⟩))
    (fun os started H enc _ => lifted os started H enc)

theorem proved : Rows.GraphRootsSaid := over
#print axioms proved

end Go.Proofs.Ytceedbkacbaaiaa.graphRoots
