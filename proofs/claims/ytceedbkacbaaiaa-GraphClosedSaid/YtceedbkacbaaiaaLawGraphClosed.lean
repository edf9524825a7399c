/- For every raw objects and roots: what its objects' strong pointers tell is in Reach; nothing else is, but roots; each once: the law GraphClosed returns true and its arguments read as they did. No condition. -/
import Derived.Test.YtceedbkacbaaiaaAppend
namespace Go.Proofs.Ytceedbkacbaaiaa.graphClosed
open Go.ChangeShapes Go.WideShapes Go.ChangeAt Go.RowKit
set_option linter.unusedVariables false
set_option linter.unusedSimpArgs false

theorem mem_grow {f : Int → Bool} {F : List Int} {key x : Int} (h : f x = decide (x ∈ F)) : (if x = key then true else f x) = decide (x ∈ F ++ [key]) := by
  rw [h]
  by_cases e : x = key <;> simp [e]
theorem take_next {o : List Int} {k : Nat} (h : k < o.length) : o.take (k + 1) = o.take k ++ [o.getD k 0] := by
  rw [List.take_succ_eq_append_getElem h]; simp [List.getD, h]
theorem not_take {o : List Int} {k : Nat} (ho : o.Nodup) (h : k < o.length) : o.getD k 0 ∉ o.take k := by
  have h1 : (o.take (k + 1)).Nodup := ho.sublist (List.take_sublist _ _)
  rw [take_next h] at h1
  intro hm
  exact (List.nodup_append.1 h1).2.2 _ hm _ (by simp) rfl
theorem mem_take {o : List Int} {t k : Nat} (h : t < k) (hk : k ≤ o.length) : o.getD t 0 ∈ o.take k := by
  rw [List.mem_take_iff_getElem]
  exact ⟨t, by omega, by simp [List.getD, show t < o.length from by omega]⟩

set_option maxRecDepth 100000 in
set_option maxHeartbeats 8000000 in
theorem walk (a0 : Option Addr) (len0 cap0 : Nat) (z0 : Nat → RawN) (a1 : Option Addr) (len1 cap1 : Nat) (z1 : List Int) (w : World) (hR : RawsAt w.heap.size w a0 len0 z0) (h1 : IsRow .i64 w a1 len1 cap1 z1) :
    Calls Try.prog 3 #[.slice a0 len0 cap0, .slice a1 len1 cap1] w fun e w' => e = .returned (.bool true) ∧ Below w.heap.size w w' := by
  have hmm := @run_makeMap Try.prog
  have hr1 := rowAt_of h1
  clear h1
  obtain ⟨n₀, hn0⟩ : ∃ n, w.heap.size = n := ⟨_, rfl⟩
  have Hn0 := Lib.hid hn0
  rw [hn0] at hR hr1
  clear hn0
  go_enter Try.func3, Try.ntmps3
  go_wp2_with fail
  refine (awake_yes _).mono ?_
  rintro e x ⟨rfl, hB⟩
  go_wp2_with fail
  refine (new_any 200 _ (by omega) (by omega)).mono ?_
  rintro e x1 ⟨P, b, rfl, hA, hP, hb, hn⟩
  have hxs := hB.size
  have hwb : n₀ ≤ b := by have := Hn0.out; omega
  replace hB := hB.trans (hn.mono hB.size)
  have hB0 : Below n₀ w x1 := by rw [Hn0.out] at hB; exact hB
  have hs1 := hB0.size
  have hx1 : n₀ ≤ x1.heap.size := by have := Hn0.out; omega
  clear hn hP hb hxs
  have hab := hA.lt.2
  have M1 := lay_more n₀ P b 200 len0 cap0 a0 z0 _ x1 hA List.length_replicate (by omega) hwb hx1 (hR.below hB0)
  clear hA
  go_wp2_with fail
  refine M1.mono ?_
  rintro e x2 ⟨sv, m, os, l, rfl, hm, hA, hl, hobs, hoff, hown, hc, hml, hser, hl0⟩
  replace hB0 := hB0.trans (hc.below (fun k e => by omega) hx1)
  have hx2 := hc.size
  clear hc M1 hB
  obtain ⟨wa, wc, rfl, hwh⟩ := where_of hown
  have M1 := link_any n₀ P b m len0 cap0 a0 wa wc z0 os l x2 hA hwb (by omega) (hR.below hB0) hml hm hobs hoff (fun h => by
    obtain ⟨g, e, h1, h2, h3, h4⟩ := hwh h
    exact ⟨g, e, h1, h2, by omega, h4⟩)
  clear hown
  go_wp2_with fail
  refine M1.mono ?_
  rintro e x3 ⟨l', rfl, hA3, hL, hc⟩
  replace hB0 := hB0.trans (hc.below (fun k e => by omega) (by omega))
  have hV := objV_linked hobs hL hser hm
  have hl' : l'.length = 200 := by rw [hL.len]; exact hl
  have hw3 : 0 < m → ∃ g, wa = some ⟨g, 0, none⟩ ∧ m ≤ wc ∧ g < x3.heap.size ∧ ∀ j, j < m → x3.cell? ⟨g, j, none⟩ = some (.int .i64 (1 + off os j : Nat)) := fun h => by
    obtain ⟨g, e, h1, h2, h3, h4⟩ := hwh h
    exact ⟨g, e, h1, Nat.lt_of_lt_of_le h2 hc.size, fun j hj => (hc.cell (p := ⟨g, j, none⟩) h2 (by show ¬ g = b; omega)).trans (h4 j hj)⟩
  have hx3 := hc.size
  clear hc M1 hwh hA hL hser hobs hl0 hl
  have M1 := roots_any n₀ m len1 cap1 a1 wa wc (fun j => z1.getD j 0) (fun j => 1 + off os j) x3 (by omega) (hr1.below hB0) hm hw3
  go_wp2_with fail
  refine M1.mono ?_
  rintro e x4 ⟨rv, rs, rfl, hrl, hri, hro, hb⟩
  have hrr := readsAs_of_owns hro
  have hA4 := hA3.below hb hA3.lt.1 hA3.lt.2
  replace hB0 := hB0.trans (hb.mono (by omega))
  have hx4 := hb.size
  clear hb M1 hw3 hro hA3
  have hri' := roots_in hri
  clear hri
  generalize plZ os 1 m = V at *
  have hG : Grph P b l' V (gOf l') := grph_of hV (by omega)
  have hsh := hG.shut
  have I1 := reachO_inv (G := gOf l') hri' hsh
  have hV8 := hG.len
  have M1 := Reach_any P b l' V (gOf l') rv rs x4 hG hA4 hrr hri' (by omega)
  have hr18 := I1.len
  generalize reachO (gOf l') V.length rs = o at *
  generalize gOf l' = G at *
  have hob : ∀ x ∈ o, -9223372036854775808 ≤ x ∧ x ≤ 9223372036854775807 := fun x hx => hG.bound (.inr (I1.sub x hx))
  have hrb : ∀ x ∈ rs, -9223372036854775808 ≤ x ∧ x ≤ 9223372036854775807 := fun x hx => hG.bound (hri' x hx)
  go_wp2_with fail
  refine M1.mono ?_
  rintro e x6 ⟨lv, rfl, hlo, hb⟩
  have hlr := readsAs_of_owns hlo
  have hA6 := hA4.below hb hA4.lt.1 hA4.lt.2
  replace hB0 := hB0.trans (hb.mono (by omega))
  replace hrr := hrr.below hb
  have hx6 := hb.size
  clear hb M1 hlo hA4 hsh
  obtain ⟨la, lc, rfl, hlc⟩ := hlr.slice
  obtain ⟨ra, rc, rfl, hrc⟩ := hrr.slice
  have Hlc := Lib.hid hlc
  have Hrc := Lib.hid hrc
  clear hlc hrc hlr hrr
  have km := BMap.new x6
  have hba := (Below.refl x6.heap.size x6).alloc (Nat.le_refl _) (.map #[] 0)
  have hAl := hA6.lt
  go_wp2
  obtain ⟨mp, hmp⟩ : ∃ q, x6.heap.size = q := ⟨_, rfl⟩
  obtain ⟨wo, hwo⟩ : ∃ wo, x6.alloc (.map #[] 0) = wo := ⟨_, rfl⟩
  rw [hmp, hwo] at km
  rw [hwo] at hba
  rw [hmp, hwo]
  rw [hmp] at hAl
  have Hmp := Lib.hid hmp
  have Hba := Lib.hid hba
  clear hmp hwo hba
  go_loopw [13] (fun i wr => ∃ k : Nat, k ≤ o.length ∧ i = .int .i64 k ∧ BMap wr mp k (fun x => decide (x ∈ o.take k)) ∧ Chg (· = mp) wo wr) (fun i _ => o.length - (intOf i).toNat)
  case atStart => exact ⟨0, by omega, rfl, km.same (fun x => by simp), Chg.refl _ _⟩
  case round =>
    clear km
    obtain ⟨k, hk, rfl, km, hch⟩ := hrel
    by_cases hlt : k < o.length
    · obtain ⟨g, rfl, hgl, hgc, hgr⟩ := Hlc.out (by omega)
      have hbx := hob _ (getD_mem hlt)
      have hno := decide_eq_false (not_take I1.ord.1 hlt)
      have h0 : o.getD k 0 ≠ 0 := fun e => I1.ord.2 (by rw [← e]; exact getD_mem hlt)
      have Ht := Lib.hid (take_next hlt)
      have c1 := (hch.cell (p := ⟨g, k, none⟩) (Nat.lt_of_lt_of_le hgl Hba.out.size) (by have := Hmp.out; show ¬ g = mp; omega)).trans ((Hba.out.cell (p := ⟨g, k, none⟩) hgl).trans (hgr k hlt))
      generalize o.getD k 0 = x at *
      have b0 : (0 : Int) ≤ (k : Int) := by omega
      have b1 : (k : Int) < (o.length : Int) := by omega
      have t0 : ((x : Int) == 0) = false := by simpa using h0
      have t1 : decide (x = 0) = false := decide_eq_false h0
      clear hgr
      go_wp2_with (first
        | (at_lookup; refine wpList_bmap_look rfl _ _ rfl rfl km rfl hbx hno ?_)
        | (at_mapUpdate; refine wpList_bmap_store rfl _ _ _ rfl rfl km (by unfold maxLen; omega) rfl rfl hbx ?_; intro w1 km1 hc1))
      go_roundw
      case rel => exact ⟨k + 1, by omega, by go_num, km1.same (fun y => by rw [Ht.out]; exact (mem_grow (f := fun x => decide (x ∈ o.take k)) rfl).symm), hch.trans hc1⟩
      case measure => simp [intOf]; omega
    · obtain rfl : k = o.length := by omega
      rw [List.take_length] at km
      have kf := BMap.new wr
      have hbf := (Below.refl wr.heap.size wr).alloc (Nat.le_refl _) (.map #[] 0)
      have kml := km.lt
      have km2 := km.on hbf
      have hwo6 : x6.heap.size ≤ wo.heap.size := Hba.out.size
      have hch1 := hch.size
      go_wp2
      obtain ⟨mf, hmf⟩ : ∃ q, wr.heap.size = q := ⟨_, rfl⟩
      obtain ⟨w2, hw2⟩ : ∃ w2, wr.alloc (.map #[] 0) = w2 := ⟨_, rfl⟩
      rw [hmf, hw2] at kf
      rw [hmf] at kml
      rw [hw2] at hbf km2
      rw [hmf, hw2]
      have hl2 : x6.heap.size ≤ mf := by omega
      -- all lists as they stand in w2, and later
      have hc62 : Chg (fun c => c = mp) x6 w2 := ((Chg.of_below (S := fun c => c = mp) Hba.out (Nat.le_refl _)).trans hch).trans (Chg.of_below hbf (Nat.le_refl _))
      have hA2 := hA6.chg hc62 (by omega) (by omega)
      have Hlc2 : Hid (0 < o.length → ∃ g, la = some ⟨g, 0, none⟩ ∧ g < mf ∧ ∀ j, j < o.length → w2.cell? ⟨g, j, none⟩ = some (.int .i64 (o.getD j 0))) := Lib.hid fun h => by
        obtain ⟨g, e, hgl, hgc, hgr⟩ := Hlc.out h
        exact ⟨g, e, by omega, fun j hj => (hc62.cell (p := ⟨g, j, none⟩) hgl (by have := Hmp.out; show ¬ g = mp; omega)).trans (hgr j hj)⟩
      have Hrc2 : Hid (0 < rs.length → ∃ g, ra = some ⟨g, 0, none⟩ ∧ g < mf ∧ ∀ j, j < rs.length → w2.cell? ⟨g, j, none⟩ = some (.int .i64 (rs.getD j 0))) := Lib.hid fun h => by
        obtain ⟨g, e, hgl, hgc, hgr⟩ := Hrc.out h
        exact ⟨g, e, by omega, fun j hj => (hc62.cell (p := ⟨g, j, none⟩) hgl (by have := Hmp.out; show ¬ g = mp; omega)).trans (hgr j hj)⟩
      have hB2 := hB0.trans (hc62.below (n := n₀) (fun k e => by have := Hmp.out; omega) (by omega))
      have hmfb : ¬ P = mf ∧ ¬ b = mf := by have := Hmp.out; omega
      have hmm : ¬ mp = mf := by omega
      have hmpf : mp < mf := by omega
      have hmn : n₀ ≤ mf := by omega
      have hm2 : mf < w2.heap.size := kf.lt
      clear Hlc Hrc hc62 hbf hw2 hmf hch km kml hl2 hwo6 hch1 hB0 hA6 Hba Hmp hx6 hAl hlt
      go_loopw [15] (fun i wr => ∃ k : Nat, k ≤ rs.length ∧ i = .int .i64 k ∧ BMap wr mf k (fun x => decide (x ∈ rs.take k)) ∧ Chg (· = mf) w2 wr) (fun i _ => rs.length - (intOf i).toNat)
      case atStart => exact ⟨0, by omega, rfl, kf.same (fun x => by simp), Chg.refl _ _⟩
      case round =>
        clear kf
        obtain ⟨k, hk, rfl, kf, hch⟩ := hrel
        have kmr := km2.chg hch hmm
        by_cases hlt : k < rs.length
        · obtain ⟨g, rfl, hgl, hgr⟩ := Hrc2.out (by omega)
          have hbx := hrb _ (getD_mem hlt)
          have Ht := Lib.hid (take_next hlt)
          have hin : rs.getD k 0 ≠ 0 → decide (rs.getD k 0 ∈ o) = true := fun h => decide_eq_true (I1.roots _ (getD_mem hlt) h)
          have c1 := (hch.cell (p := ⟨g, k, none⟩) (by show g < _; omega) (by show ¬ g = mf; omega)).trans (hgr k hlt)
          generalize rs.getD k 0 = x at *
          have b0 : (0 : Int) ≤ (k : Int) := by omega
          have b1 : (k : Int) < (rs.length : Int) := by omega
          have hm : k < maxLen := by unfold maxLen; omega
          clear hgr
          by_cases h0 : x = 0
          · subst h0
            clear hin
            go_wp2_with (at_mapUpdate; refine wpList_bmap_store rfl _ _ _ rfl rfl kf hm rfl rfl hbx ?_; intro w1 km1 hc1)
            go_roundw
            case rel => exact ⟨k + 1, by omega, by go_num, km1.same (fun y => by rw [Ht.out]; exact (mem_grow (f := fun x => decide (x ∈ rs.take k)) rfl).symm), hch.trans hc1⟩
            case measure => simp [intOf]; omega
          · have hi := hin h0
            have t0 : ((x : Int) != 0) = true := by simpa using h0
            have t1 : decide (x = 0) = false := decide_eq_false h0
            clear hin
            go_wp2_with (first
              | (at_lookup; refine wpList_bmap_look rfl _ _ rfl rfl kmr rfl hbx hi ?_)
              | (at_mapUpdate; refine wpList_bmap_store rfl _ _ _ rfl rfl kf hm rfl rfl hbx ?_; intro w1 km1 hc1))
            go_roundw
            case rel => exact ⟨k + 1, by omega, by go_num, km1.same (fun y => by rw [Ht.out]; exact (mem_grow (f := fun x => decide (x ∈ rs.take k)) rfl).symm), hch.trans hc1⟩
            case measure => simp [intOf]; omega
        · obtain rfl : k = rs.length := by omega
          rw [List.take_length] at kf
          have hA3 := hA2.chg hch hmfb.1 hmfb.2
          have hB3 := hB2.trans (hch.below (n := n₀) (fun k e => by omega) (by omega))
          have Hlc3 : Hid (0 < o.length → ∃ g, la = some ⟨g, 0, none⟩ ∧ g < mf ∧ ∀ j, j < o.length → wr.cell? ⟨g, j, none⟩ = some (.int .i64 (o.getD j 0))) := Lib.hid fun h => by
            obtain ⟨g, e, hgl, hgr⟩ := Hlc2.out h
            exact ⟨g, e, hgl, fun j hj => (hch.cell (p := ⟨g, j, none⟩) (by show g < _; omega) (by show ¬ g = mf; omega)).trans (hgr j hj)⟩
          have hm3 : mf < wr.heap.size := kf.lt
          have km3 := kmr
          clear Hlc2 Hrc2 hB2 hA2 km2 hlt
          go_wp2
          obtain ⟨w3, rfl⟩ : ∃ w3 : World, w3 = wr := ⟨_, rfl⟩
          go_loopw [16] (fun i wr => ∃ k : Nat, k ≤ o.length ∧ i = .int .i64 k ∧ Below w3.heap.size w3 wr) (fun i _ => o.length - (intOf i).toNat)
          case atStart => exact ⟨0, by omega, rfl, Below.refl _ _⟩
          case round =>
            obtain ⟨k, hk, rfl, hB⟩ := hrel
            have hBs := hB.size
            by_cases hlt : k < o.length
            · obtain ⟨g, rfl, hgl, hgr⟩ := Hlc3.out (by omega)
              have hx := I1.sub _ (getD_mem hlt)
              have hin : ∀ y ∈ G (o.getD k 0), y ≠ 0 → y ∈ o := I1.shut k hlt
              have c1 := (hB.cell (p := ⟨g, k, none⟩) (by show g < _; omega)).trans (hgr k hlt)
              generalize o.getD k 0 = x at *
              have M1 := hG.strong x hx wr (hA3.below hB hA3.lt.1 hA3.lt.2)
              have hyb : ∀ y ∈ G x, -9223372036854775808 ≤ y ∧ y ≤ 9223372036854775807 := fun y hy => hG.bound (hG.shut x hx y hy)
              have hdg := hG.deg x hx
              generalize G x = gs at *
              have b0 : (0 : Int) ≤ (k : Int) := by omega
              have b1 : (k : Int) < (o.length : Int) := by omega
              clear hgr
              go_wp2_with fail
              refine M1.mono ?_
              rintro e w4 ⟨sv, rfl, hso, hb4⟩
              clear M1 c1
              have hsr := readsAs_of_owns hso
              obtain ⟨sa, sc, rfl, hsc⟩ := hsr.slice
              have Hsc := Lib.hid hsc
              have hB4 := hB.trans (hb4.mono hBs)
              have km4 := km3.below hB4 (by omega)
              clear hsc hsr hso
              go_wp2
              go_loop [19] (fun j => ∃ t : Nat, t ≤ gs.length ∧ j = .int .i64 t) (fun j => gs.length - (intOf j).toNat)
              case atStart => exact ⟨0, by omega, rfl⟩
              case round =>
                obtain ⟨t, ht, rfl⟩ := hrel
                by_cases hlt4 : t < gs.length
                · obtain ⟨g4, rfl, hgl4, _, hgr4⟩ := Hsc.out (by omega)
                  have hbx := hyb _ (getD_mem hlt4)
                  have hin4 : gs.getD t 0 ≠ 0 → decide (gs.getD t 0 ∈ o) = true := fun h => decide_eq_true (hin _ (getD_mem hlt4) h)
                  have c4 := hgr4 t hlt4
                  generalize gs.getD t 0 = y at *
                  have b2 : (0 : Int) ≤ (t : Int) := by omega
                  have b3 : (t : Int) < (gs.length : Int) := by omega
                  clear hgr4
                  by_cases h0 : y = 0
                  · subst h0
                    clear hin4
                    go_wp2
                    go_round
                    case rel => exact ⟨t + 1, by omega, by go_num⟩
                    case measure => simp [intOf]; omega
                  · have hi := hin4 h0
                    have t0 : ((y : Int) != 0) = true := by simpa using h0
                    have t1 : decide (y = 0) = false := decide_eq_false h0
                    clear hin4
                    go_wp2_with (at_lookup; refine wpList_bmap_look rfl _ _ rfl rfl km4 rfl hbx hi ?_)
                    go_round
                    case rel => exact ⟨t + 1, by omega, by go_num⟩
                    case measure => simp [intOf]; omega
                · go_wp2
                  go_roundw
                  case rel => exact ⟨k + 1, by omega, by go_num, hB4⟩
                  case measure => simp [intOf]; omega
            · obtain rfl : k = o.length := by omega
              have hA5 := hA3.below hB hA3.lt.1 hA3.lt.2
              have kf5 := kf.below hB hm3
              have hB5 := hB3.trans (hB.mono (by omega))
              have Hlc5 : Hid (0 < o.length → ∃ g, la = some ⟨g, 0, none⟩ ∧ g < mf ∧ ∀ j, j < o.length → wr.cell? ⟨g, j, none⟩ = some (.int .i64 (o.getD j 0))) := Lib.hid fun h => by
                obtain ⟨g, e, hgl, hgr⟩ := Hlc3.out h
                exact ⟨g, e, hgl, fun j hj => (hB.cell (p := ⟨g, j, none⟩) (by show g < _; omega)).trans (hgr j hj)⟩
              have hm5 : mf < wr.heap.size := kf5.lt
              clear Hlc3 hA3 kf hB3 hB km3 hlt
              go_wp2
              obtain ⟨w5, rfl⟩ : ∃ w5 : World, w5 = wr := ⟨_, rfl⟩
              go_loopw [20] (fun i wr => ∃ k n : Nat, k ≤ o.length ∧ i = .int .i64 k ∧ n ≤ 5 + 8 * k ∧ BMap wr mf n (fun x => decide (x ∈ rs ++ (o.take k).flatMap G)) ∧ Chg (· = mf) w5 wr) (fun i _ => o.length - (intOf i).toNat)
              case atStart => exact ⟨0, rs.length, by omega, rfl, by omega, kf5.same (fun x => by simp), Chg.refl _ _⟩
              case round =>
                clear kf5
                obtain ⟨k, n, hk, rfl, hn, kf, hch⟩ := hrel
                have hcs := hch.size
                by_cases hlt : k < o.length
                · obtain ⟨g, rfl, hgl, hgr⟩ := Hlc5.out (by omega)
                  have hx := I1.sub _ (getD_mem hlt)
                  have hobx := hob _ (getD_mem hlt)
                  have hfr : decide (o.getD k 0 ∈ rs ++ (o.take k).flatMap G) = true := decide_eq_true (by
                    rcases I1.from_ k hlt with h | ⟨t, ht, h⟩
                    · exact List.mem_append_left _ h
                    · exact List.mem_append_right _ (List.mem_flatMap.2 ⟨_, mem_take ht hk, h⟩))
                  have c1 := (hch.cell (p := ⟨g, k, none⟩) (by show g < _; omega) (by show ¬ g = mf; omega)).trans (hgr k hlt)
                  have Hnx : Hid (rs ++ (o.take (k + 1)).flatMap G = (rs ++ (o.take k).flatMap G) ++ G (o.getD k 0)) := Lib.hid (by rw [take_next hlt, List.flatMap_append]; simp)
                  generalize o.getD k 0 = x at *
                  have M1 := hG.strong x hx wr (hA5.chg hch hmfb.1 hmfb.2)
                  have hyb : ∀ y ∈ G x, -9223372036854775808 ≤ y ∧ y ≤ 9223372036854775807 := fun y hy => hG.bound (hG.shut x hx y hy)
                  have hdg := hG.deg x hx
                  generalize G x = gs at *
                  generalize rs ++ (o.take k).flatMap G = F at *
                  have b0 : (0 : Int) ≤ (k : Int) := by omega
                  have b1 : (k : Int) < (o.length : Int) := by omega
                  clear hgr
                  go_wp2_with (at_lookup; refine wpList_bmap_look rfl _ _ rfl rfl kf rfl hobx hfr ?_)
                  refine M1.mono ?_
                  rintro e w6 ⟨sv, rfl, hso, hb6⟩
                  clear M1 c1
                  have hsr := readsAs_of_owns hso
                  obtain ⟨sa, sc, rfl, hsc⟩ := hsr.slice
                  have hgf : ∀ g, sa = some ⟨g, 0, none⟩ → g ≠ mf := fun g e e' => by
                    have := (own_block hso (k := g) (by rw [e]; rfl)).1
                    have := kf.lt
                    omega
                  have Hsc := Lib.hid hsc
                  have kf6 := kf.on hb6
                  have hch6 := hch.trans (Chg.of_below (S := (· = mf)) hb6 (Nat.le_refl _))
                  clear hsc hsr hso kf hb6
                  go_wp2
                  go_loopw [23] (fun j wq => ∃ t n' : Nat, t ≤ gs.length ∧ j = .int .i64 t ∧ n' ≤ 5 + 8 * k + t ∧ BMap wq mf n' (fun x => decide (x ∈ F ++ gs.take t)) ∧ Chg (· = mf) w6 wq) (fun j _ => gs.length - (intOf j).toNat)
                  case atStart => exact ⟨0, n, by omega, rfl, by omega, kf6.same (fun x => by simp), Chg.refl _ _⟩
                  case round =>
                    clear kf6
                    obtain ⟨t, n', ht, rfl, hn', kf, hch7⟩ := hrel
                    by_cases hlt4 : t < gs.length
                    · obtain ⟨g4, rfl, hgl4, _, hgr4⟩ := Hsc.out (by omega)
                      have hbx := hyb _ (getD_mem hlt4)
                      have Ht := Lib.hid (take_next hlt4)
                      have hne := hgf g4 rfl
                      have c4 := (hch7.cell (p := ⟨g4, t, none⟩) hgl4 hne).trans (hgr4 t hlt4)
                      generalize gs.getD t 0 = y at *
                      have b2 : (0 : Int) ≤ (t : Int) := by omega
                      have b3 : (t : Int) < (gs.length : Int) := by omega
                      have hm : n' < maxLen := by unfold maxLen; omega
                      clear hgr4
                      go_wp2_with (at_mapUpdate; refine wpList_bmap_store rfl _ _ _ rfl rfl kf hm rfl rfl hbx ?_; intro w1 km1 hc1)
                      go_roundw
                      case rel => exact ⟨t + 1, n' + 1, by omega, by go_num, by omega, km1.same (fun y => by rw [Ht.out, ← List.append_assoc]; exact (mem_grow (f := fun x => decide (x ∈ F ++ gs.take t)) rfl).symm), hch7.trans hc1⟩
                      case measure => simp [intOf]; omega
                    · obtain rfl : t = gs.length := by omega
                      rw [List.take_length] at kf
                      go_wp2
                      go_roundw
                      case rel => exact ⟨k + 1, n', by omega, by go_num, by omega, kf.same (fun x => by rw [Hnx.out]), hch6.trans hch7⟩
                      case measure => simp [intOf]; omega
                · go_wp2
                  go_ret
                  have hs := hB5.size
                  have e := Hn0.out
                  refine ⟨rfl, ?_⟩
                  rw [e]
                  exact hB5.trans (hch.below (fun k e => by omega) (by omega))

set_option maxRecDepth 100000 in
theorem lifted (os : Os) (started : os.Started) (H : Type) (enc : TypeId × Value → H) :
    ReturnsInHanded {} Try.checked os 3 .any (Rows.graphClosedSpec.pre6 enc Try.prog Try.f3 Rows.graphClosedRow.domain false) (Rows.graphClosedSpec.post enc Try.prog Try.f3 false true false false) := by
  refine returnsInHanded_of_change (C := Try.checked) own started (by kernel_rfl) Try.func3
    (ChangeSpec.witness6 (enc := enc) (C := Try.checked) false ⟨#[], #[.slice none 0 0, .slice none 0 0], []⟩ 8 (by kernel_rfl) (by kernel_rfl) (by kernel_rfl) (by kernel_rfl)) ?_
  intro W base args ds gs before hval0 hW hcnd _
  have hval : ∀ (j : Nat) t v, Try.f3.params[j]? = some t → args[j]? = some v → Value.okWide Try.prog W .any base t v := hval0
  have hW' := hW
  obtain ⟨p, q, hA0, hV, rfl, hfz, hnd⟩ := hW
  have hA : DataW.TrodAll enc Try.prog W 0 (fun _ => true) true Try.f3.params.toList args.toList ds p := hA0
  rw [Try.params3] at hA hval
  obtain ⟨v0, vs0, d0, ds0, p0, q0, hargs, rfl, rfl, h0, r0⟩ := trodAll_cons hA
  obtain ⟨v1, vs1, d1, ds1, p1, q1, rfl, rfl, rfl, h1, r1⟩ := trodAll_cons r0
  obtain ⟨rfl, rfl, rfl⟩ := trodAll_nil r1
  obtain rfl : args = #[v0, v1] := by cases args; simp_all
  obtain ⟨rfl, rfl⟩ := trodVars_none hV
  obtain ⟨a0, len0, cap0, rfl⟩ := okWide_slice Try.underlying22 (hval 0 22 v0 rfl rfl)
  have k0 := h0
  have lt0 : ∀ x ∈ p0, x.block < W.heap.size := by obtain ⟨m, hm⟩ := k0; exact DataW.trod_lt m _ _ _ hm
  obtain ⟨y0, y0p⟩ := open_nests (n := 8) (ks := rawKinds) Try.underlying22 (by kernel_rfl) (by kernel_rfl) (by decide) h0
  obtain ⟨z0, w0⟩ := raws_of_nest y0p
  obtain ⟨a1, len1, cap1, rfl⟩ := okWide_slice Try.underlying23 (hval 1 23 v1 rfl rfl)
  have k1 := h1
  have lt1 : ∀ x ∈ p1, x.block < W.heap.size := by obtain ⟨m, hm⟩ := k1; exact DataW.trod_lt m _ _ _ hm
  obtain ⟨z1, w1⟩ := open_row Try.underlying23 Try.underlying3 (by kernel_rfl) h1
  clear hA0 hval0
  refine (walk a0 len0 cap0 z0 a1 len1 cap1 z1 W w0 w1).mono fun e W' ⟨he, bel⟩ => ?_
  subst he
  exact ⟨_, rfl, _, _, _, [], _, [], hW', trodAll_mk1 (shut_bool Try.underlying4 _), (trodAll_cons_mk (Below.trod laidOut (by kernel_rfl) (of_decide_eq_true (by kernel_rfl)) k0 bel lt0) (trodAll_cons_mk (Below.trod laidOut (by kernel_rfl) (of_decide_eq_true (by kernel_rfl)) k1 bel lt1) trodAll_mk0)), rfl, bel.frame _, fun h => by cases h⟩

theorem over : Rows.graphClosedRow.holds Try.pinned (OpenSpec.ofChange Rows.graphClosedSpec) :=
  OpenClaim.holds_of_wide 3 Try.f3 rfl rfl rfl rfl rfl rfl rfl ⟨rfl, rfl, rfl, rfl, rfl⟩ rfl rfl rfl rfl rfl (by kernel_rfl) Try.func3 (by kernel_rfl)
    (of_decide_eq_true (by kernel_rfl)) (by unfold Func.isWrapper; first | (rw [if_pos (by decide +kernel)]; kernel_rfl) | (rw [if_neg (by decide +kernel)]; exact ⟨rfl, rfl⟩))
    (fun os started H enc _ => lifted os started H enc)

theorem proved : Rows.GraphClosedSaid := over
#print axioms proved

end Go.Proofs.Ytceedbkacbaaiaa.graphClosed
