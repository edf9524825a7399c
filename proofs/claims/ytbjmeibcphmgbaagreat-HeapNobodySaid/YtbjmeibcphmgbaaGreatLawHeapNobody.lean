/- For every list of raw ops, place and field: no place but an object's is here, and what is done to another one is an error that changes nothing: the law HeapNobody returns true and its arguments read as they did. No condition. -/
import Derived.Test.YtbjmeibcphmgbaaGreatBase4
namespace Go.Proofs.YtbjmeibcphmgbaaGreat.heapNobody
open Go.ChangeShapes Go.WideShapes Go.ChangeAt Go.RowKit
set_option linter.unusedVariables false
set_option linter.unusedSimpArgs false

set_option maxRecDepth 100000 in
set_option maxHeartbeats 4000000 in
theorem walk (a0 : Option Addr) (len0 cap0 : Nat) (z0 : Nat → Nat → Value) (a1 a2 : Int) (w : World) (h0 : IsFlat opKs w a0 len0 cap0 z0) (w1 : I64 a1) (w2 : I64 a2) :
    Calls Tryz.prog 7 #[.slice a0 len0 cap0, .int .i64 a1, .int .i64 a2] w fun e w' => e = .returned (.bool true) ∧ Below w.heap.size w w' := by
  have H0 := Lib.hid h0
  have hl0 := flat_len h0
  clear h0
  obtain ⟨n, hn⟩ : ∃ n, w.heap.size = n := ⟨_, rfl⟩
  have Hn := Lib.hid hn
  rw [hn]
  go_enter Tryz.func7, Tryz.ntmps7
  go_wp2_with fail
  refine (awake_yes _).mono ?_
  rintro e x ⟨rfl, hB⟩
  rw [hn] at hB
  clear hn
  have hxn : n ≤ x.heap.size := by have := hB.size; have := Hn.out; omega
  have MB := begin_from 150 (by omega) (by omega) n x hxn
  go_wp2_with fail
  refine MB.mono ?_
  rintro e y ⟨T, A, B, rfl, hT, hb⟩
  replace hB := hB.trans hb
  have G0 := Lib.hid (ali_new true (z := 150) (by omega) (by omega))
  generalize (⟨Hp.new 150, Hp.new 16000, [0, 0, 0, 0], [0, 0, 0, 0]⟩ : St) = t0 at *
  clear MB hb hxn x
  go_wp2_with fail
  go_loopw [9] (fun i wr => ∃ (k : Nat) (t : St), k ≤ 30 ∧ k ≤ len0 ∧ i = .int .i64 k ∧ Hid (Ali true 150 k t) ∧ TwinFrom n wr T A B t ∧ Below n w wr) (fun i _ => 30 - (intOf i).toNat)
  case atStart => exact ⟨0, t0, by omega, by omega, rfl, G0, hT, hB⟩
  case round =>
    clear hT hB G0
    obtain ⟨k, t, hk, hk0, rfl, hG, hT, hB⟩ := hrel
    have hwr : n ≤ wr.heap.size := by have := hB.size; have := Hn.out; omega
    by_cases hlt : k < len0 ∧ k < 30
    · have d0 : decide ((k : Int) < (len0 : Int)) = true := decide_eq_true (by omega)
      have d1 : decide ((k : Int) < 30) = true := decide_eq_true (by omega)
      obtain ⟨ob, oo, o0, o1, o2, o3, o4, o5, o6, o7, eo, hob, hop⟩ := op_at H0.out hlt.1
      subst eo
      replace hop := hop.on hB (by have := Hn.out; omega)
      have MD := does_yes (nice_ali true 150) hwr hT hG.out (by omega) o0 o1 o2 o3 o4 o5 o6 o7 hop.b0 hop.b1 hop.b2 hop.b3 hop.b4 hop.b5 hop.b6 hop.b7
      obtain ⟨c0, c1, c2, c3, c4, c5, c6, c7⟩ := hop.c
      have b0 : (0 : Int) ≤ (k : Int) := by omega
      have b1 : (k : Int) < (len0 : Int) := by omega
      clear hop hT
      go_wp2_with fail
      refine MD.mono ?_
      rintro e y1 ⟨rfl, t', hT, hG', hb, -⟩
      replace hB := hB.trans hb
      have HG' := Lib.hid hG'
      clear MD hG hG' hb c0 c1 c2 c3 c4 c5 c6 c7
      go_wp2
      go_roundw
      case rel => exact ⟨k + 1, t', by omega, by omega, by go_num, HG', hT, hB⟩
      case measure => simp [intOf]; omega
    · by_cases hl : k < len0
      · have d0 : decide ((k : Int) < (len0 : Int)) = true := decide_eq_true (by omega)
        have d1 : decide ((k : Int) < 30) = false := decide_eq_false (by omega)
        have MP := fun x => pick_any a1 310 x w1.1 w1.2 (by omega) (by omega)
        obtain ⟨pk, hpk⟩ : ∃ pk, pickOf a1 310 = pk := ⟨_, rfl⟩
        rw [hpk] at MP
        clear hpk
        go_wp2_with fail
        refine (MP _).mono ?_
        rintro e _ ⟨rfl, rfl⟩
        clear MP
        have kq := BlkIs.new wr #[.int .i64 a1, .int .i64 pk, .int .i64 0, .int .i64 (-1)] 3
        have hbq := (Below.refl wr.heap.size wr).alloc (Nat.le_refl _) (.cells #[.int .i64 a1, .int .i64 pk, .int .i64 0, .int .i64 (-1)] 3)
        replace hT := hT.on hbq
        replace hB := hB.trans (hbq.mono hwr)
        obtain ⟨Qb, hQb⟩ : ∃ Qb, wr.heap.size = Qb := ⟨_, rfl⟩
        rw [hQb] at kq
        have hQn : n ≤ Qb := by omega
        go_wp2_with fail
        obtain ⟨x, hxx⟩ : ∃ x, wr.alloc (.cells #[.int .i64 a1, .int .i64 pk, .int .i64 0, .int .i64 (-1)] 3) = x := ⟨_, rfl⟩
        rw [hxx] at kq hT hB ⊢
        clear hxx hbq hwr hQb
        obtain ⟨yy, rfl⟩ : ∃ yy : World, yy = x := ⟨_, rfl⟩
        go_loopw [55] (fun i wq => ∃ l : Nat, l ≤ 4 ∧ i = .int .i64 l ∧ TwinFrom n wq T A B t ∧ Below n w wq ∧ BlkIs wq Qb #[.int .i64 a1, .int .i64 pk, .int .i64 0, .int .i64 (-1)] 3) (fun i _ => 4 - (intOf i).toNat)
        case atStart => exact ⟨0, by omega, rfl, hT, hB, kq⟩
        case round =>
          clear hT hB kq
          obtain ⟨l, hl4, rfl, hT, hB, kq⟩ := hrel
          have hwr : n ≤ wr.heap.size := by have := hB.size; have := Hn.out; omega
          by_cases hlt4 : l < 4
          · have d2 : decide ((l : Int) < 4) = true := decide_eq_true (by omega)
            have l0 : (0 : Int) ≤ (l : Int) := by omega
            have l1 : (l : Int) < 4 := by omega
            have hcl : ∃ p : Int, wr.cell? ⟨Qb, l, none⟩ = some (.int .i64 p) := by
              match l, hlt4 with
              | 0, _ => exact ⟨_, kq.cell 0⟩
              | 1, _ => exact ⟨_, kq.cell 1⟩
              | 2, _ => exact ⟨_, kq.cell 2⟩
              | 3, _ => exact ⟨_, kq.cell 3⟩
            obtain ⟨p, hp⟩ := hcl
            have MS := readT hwr hT (fun K hK => hereA hK hG.out.os p)
            have cA := hT.cells.1
            go_wp2_with fail
            refine MS.mono ?_
            rintro e v0 ⟨rfl, hT, hb, hb'⟩
            replace kq := kq.on hb'
            replace hB := hB.trans hb
            have hv0 : n ≤ v0.heap.size := by have := hB.size; have := Hn.out; omega
            clear MS cA hb hb' hp
            by_cases hin : p ∈ nums t.s.pn
            · rw [decide_eq_true hin]
              go_wp2
              go_roundw
              case rel => exact ⟨l + 1, by omega, by go_num, hT, hB, kq⟩
              case measure => simp [intOf]; omega
            · rw [decide_eq_false hin]
              have HIN := Lib.hid hin
              clear hin
              have hS := hG.out.os.sound
              have HS := Lib.hid hS
              clear hS
              have MS := readT hv0 hT (fun K hK => shapeH_no hK HS.out p HIN.out)
              have cA := hT.cells.1
              go_wp2_with fail
              refine MS.mono ?_
              rintro e v1 ⟨rfl, hT, hb, hb'⟩
              replace kq := kq.on hb'
              replace hB := hB.trans hb
              have hv1 : n ≤ v1.heap.size := by have := hB.size; have := Hn.out; omega
              clear MS cA hb hb'
              have cA1 := hT.cells.1
              have hTl := hT.lt.1
              have hbs := (Below.refl v1.heap.size v1).alloc (Nat.le_refl _) (.cells #[.int .i64 0, .int .i64 0, .bool false, .bool false] 45)
              replace hT := hT.on hbs
              replace kq := kq.on hbs
              replace hB := hB.trans (hbs.mono hv1)
              have hv1 := Nat.le_trans hv1 hbs.size
              obtain ⟨u1, hu1⟩ : ∃ u1, v1.alloc (.cells #[.int .i64 0, .int .i64 0, .bool false, .bool false] 45) = u1 := ⟨_, rfl⟩
              rw [hu1] at hT kq hB hv1
              have HU1 := Lib.hid hu1
              clear hbs hu1
              have MS := readT hv1 hT (fun K hK => serialH_no hK HS.out p HIN.out)
              have cA := hT.cells.1
              go_wp2_with fail
              rw [HU1.out]
              clear HU1 cA1 hTl
              refine MS.mono ?_
              rintro e v2 ⟨rfl, hT, hb, hb'⟩
              replace kq := kq.on hb'
              replace hB := hB.trans hb
              have hv2 : n ≤ v2.heap.size := by have := hB.size; have := Hn.out; omega
              clear MS cA hb hb'
              have MS := readT hv2 hT (fun K hK => ptrH_no hK HS.out p HIN.out a2)
              have cA := hT.cells.1
              go_wp2_with fail
              refine MS.mono ?_
              rintro e v3 ⟨rfl, hT, hb, hb'⟩
              replace kq := kq.on hb'
              replace hB := hB.trans hb
              have hv3 : n ≤ v3.heap.size := by have := hB.size; have := Hn.out; omega
              clear MS cA hb hb'
              have MS := readT hv3 hT (fun K hK => numH_no hK HS.out p HIN.out a2)
              have cA := hT.cells.1
              go_wp2_with fail
              refine MS.mono ?_
              rintro e v4 ⟨rfl, hT, hb, hb'⟩
              replace kq := kq.on hb'
              replace hB := hB.trans hb
              have hv4 : n ≤ v4.heap.size := by have := hB.size; have := Hn.out; omega
              clear MS cA hb hb'
              have MS := readT hv4 hT (fun K hK => setPtrH_no hK HS.out p a2 0 (.inl HIN.out))
              have cA := hT.cells.1
              go_wp2_with fail
              refine MS.mono ?_
              rintro e v5 ⟨rfl, hT, hb, hb'⟩
              replace kq := kq.on hb'
              replace hB := hB.trans hb
              have hv5 : n ≤ v5.heap.size := by have := hB.size; have := Hn.out; omega
              clear MS cA hb hb'
              have MS := readT hv5 hT (fun K hK => setNumH_no hK HS.out p HIN.out a2 1)
              have cA := hT.cells.1
              go_wp2_with fail
              refine MS.mono ?_
              rintro e v6 ⟨rfl, hT, hb, hb'⟩
              replace kq := kq.on hb'
              replace hB := hB.trans hb
              have hv6 : n ≤ v6.heap.size := by have := hB.size; have := Hn.out; omega
              clear MS cA hb hb'
              have MS := readT hv6 hT (fun K hK => setFreedH_no hK HS.out p HIN.out true)
              have cA := hT.cells.1
              go_wp2_with fail
              refine MS.mono ?_
              rintro e v7 ⟨rfl, hT, hb, hb'⟩
              replace kq := kq.on hb'
              replace hB := hB.trans hb
              have hv7 : n ≤ v7.heap.size := by have := hB.size; have := Hn.out; omega
              clear MS cA hb hb'
              have MS := readT hv7 hT (fun K hK => setSecondH_no hK HS.out p HIN.out 1)
              have cA := hT.cells.1
              go_wp2_with fail
              refine MS.mono ?_
              rintro e v8 ⟨rfl, hT, hb, hb'⟩
              replace kq := kq.on hb'
              replace hB := hB.trans hb
              have hv8 : n ≤ v8.heap.size := by have := hB.size; have := Hn.out; omega
              clear MS cA hb hb'
              go_wp2
              go_roundw
              case rel => exact ⟨l + 1, by omega, by go_num, hT, hB, kq⟩
              case measure => simp [intOf]; omega
          · have d2 : decide ((l : Int) < 4) = false := decide_eq_false (by omega)
            have MS := alikeT hwr hT hG.out
            go_wp2_with fail
            refine MS.mono ?_
            rintro e v5 ⟨rfl, hT, hb⟩
            replace hB := hB.trans hb
            clear MS hb
            go_wp2
            go_ret
            exact ⟨rfl, hB⟩
      · have d0 : decide ((k : Int) < (len0 : Int)) = false := decide_eq_false (by omega)
        have MP := fun x => pick_any a1 310 x w1.1 w1.2 (by omega) (by omega)
        obtain ⟨pk, hpk⟩ : ∃ pk, pickOf a1 310 = pk := ⟨_, rfl⟩
        rw [hpk] at MP
        clear hpk
        go_wp2_with fail
        refine (MP _).mono ?_
        rintro e _ ⟨rfl, rfl⟩
        clear MP
        have kq := BlkIs.new wr #[.int .i64 a1, .int .i64 pk, .int .i64 0, .int .i64 (-1)] 3
        have hbq := (Below.refl wr.heap.size wr).alloc (Nat.le_refl _) (.cells #[.int .i64 a1, .int .i64 pk, .int .i64 0, .int .i64 (-1)] 3)
        replace hT := hT.on hbq
        replace hB := hB.trans (hbq.mono hwr)
        obtain ⟨Qb, hQb⟩ : ∃ Qb, wr.heap.size = Qb := ⟨_, rfl⟩
        rw [hQb] at kq
        have hQn : n ≤ Qb := by omega
        go_wp2_with fail
        obtain ⟨x, hxx⟩ : ∃ x, wr.alloc (.cells #[.int .i64 a1, .int .i64 pk, .int .i64 0, .int .i64 (-1)] 3) = x := ⟨_, rfl⟩
        rw [hxx] at kq hT hB ⊢
        clear hxx hbq hwr hQb
        obtain ⟨yy, rfl⟩ : ∃ yy : World, yy = x := ⟨_, rfl⟩
        go_loopw [55] (fun i wq => ∃ l : Nat, l ≤ 4 ∧ i = .int .i64 l ∧ TwinFrom n wq T A B t ∧ Below n w wq ∧ BlkIs wq Qb #[.int .i64 a1, .int .i64 pk, .int .i64 0, .int .i64 (-1)] 3) (fun i _ => 4 - (intOf i).toNat)
        case atStart => exact ⟨0, by omega, rfl, hT, hB, kq⟩
        case round =>
          clear hT hB kq
          obtain ⟨l, hl4, rfl, hT, hB, kq⟩ := hrel
          have hwr : n ≤ wr.heap.size := by have := hB.size; have := Hn.out; omega
          by_cases hlt4 : l < 4
          · have d2 : decide ((l : Int) < 4) = true := decide_eq_true (by omega)
            have l0 : (0 : Int) ≤ (l : Int) := by omega
            have l1 : (l : Int) < 4 := by omega
            have hcl : ∃ p : Int, wr.cell? ⟨Qb, l, none⟩ = some (.int .i64 p) := by
              match l, hlt4 with
              | 0, _ => exact ⟨_, kq.cell 0⟩
              | 1, _ => exact ⟨_, kq.cell 1⟩
              | 2, _ => exact ⟨_, kq.cell 2⟩
              | 3, _ => exact ⟨_, kq.cell 3⟩
            obtain ⟨p, hp⟩ := hcl
            have MS := readT hwr hT (fun K hK => hereA hK hG.out.os p)
            have cA := hT.cells.1
            go_wp2_with fail
            refine MS.mono ?_
            rintro e v0 ⟨rfl, hT, hb, hb'⟩
            replace kq := kq.on hb'
            replace hB := hB.trans hb
            have hv0 : n ≤ v0.heap.size := by have := hB.size; have := Hn.out; omega
            clear MS cA hb hb' hp
            by_cases hin : p ∈ nums t.s.pn
            · rw [decide_eq_true hin]
              go_wp2
              go_roundw
              case rel => exact ⟨l + 1, by omega, by go_num, hT, hB, kq⟩
              case measure => simp [intOf]; omega
            · rw [decide_eq_false hin]
              have HIN := Lib.hid hin
              clear hin
              have hS := hG.out.os.sound
              have HS := Lib.hid hS
              clear hS
              have MS := readT hv0 hT (fun K hK => shapeH_no hK HS.out p HIN.out)
              have cA := hT.cells.1
              go_wp2_with fail
              refine MS.mono ?_
              rintro e v1 ⟨rfl, hT, hb, hb'⟩
              replace kq := kq.on hb'
              replace hB := hB.trans hb
              have hv1 : n ≤ v1.heap.size := by have := hB.size; have := Hn.out; omega
              clear MS cA hb hb'
              have cA1 := hT.cells.1
              have hTl := hT.lt.1
              have hbs := (Below.refl v1.heap.size v1).alloc (Nat.le_refl _) (.cells #[.int .i64 0, .int .i64 0, .bool false, .bool false] 45)
              replace hT := hT.on hbs
              replace kq := kq.on hbs
              replace hB := hB.trans (hbs.mono hv1)
              have hv1 := Nat.le_trans hv1 hbs.size
              obtain ⟨u1, hu1⟩ : ∃ u1, v1.alloc (.cells #[.int .i64 0, .int .i64 0, .bool false, .bool false] 45) = u1 := ⟨_, rfl⟩
              rw [hu1] at hT kq hB hv1
              have HU1 := Lib.hid hu1
              clear hbs hu1
              have MS := readT hv1 hT (fun K hK => serialH_no hK HS.out p HIN.out)
              have cA := hT.cells.1
              go_wp2_with fail
              rw [HU1.out]
              clear HU1 cA1 hTl
              refine MS.mono ?_
              rintro e v2 ⟨rfl, hT, hb, hb'⟩
              replace kq := kq.on hb'
              replace hB := hB.trans hb
              have hv2 : n ≤ v2.heap.size := by have := hB.size; have := Hn.out; omega
              clear MS cA hb hb'
              have MS := readT hv2 hT (fun K hK => ptrH_no hK HS.out p HIN.out a2)
              have cA := hT.cells.1
              go_wp2_with fail
              refine MS.mono ?_
              rintro e v3 ⟨rfl, hT, hb, hb'⟩
              replace kq := kq.on hb'
              replace hB := hB.trans hb
              have hv3 : n ≤ v3.heap.size := by have := hB.size; have := Hn.out; omega
              clear MS cA hb hb'
              have MS := readT hv3 hT (fun K hK => numH_no hK HS.out p HIN.out a2)
              have cA := hT.cells.1
              go_wp2_with fail
              refine MS.mono ?_
              rintro e v4 ⟨rfl, hT, hb, hb'⟩
              replace kq := kq.on hb'
              replace hB := hB.trans hb
              have hv4 : n ≤ v4.heap.size := by have := hB.size; have := Hn.out; omega
              clear MS cA hb hb'
              have MS := readT hv4 hT (fun K hK => setPtrH_no hK HS.out p a2 0 (.inl HIN.out))
              have cA := hT.cells.1
              go_wp2_with fail
              refine MS.mono ?_
              rintro e v5 ⟨rfl, hT, hb, hb'⟩
              replace kq := kq.on hb'
              replace hB := hB.trans hb
              have hv5 : n ≤ v5.heap.size := by have := hB.size; have := Hn.out; omega
              clear MS cA hb hb'
              have MS := readT hv5 hT (fun K hK => setNumH_no hK HS.out p HIN.out a2 1)
              have cA := hT.cells.1
              go_wp2_with fail
              refine MS.mono ?_
              rintro e v6 ⟨rfl, hT, hb, hb'⟩
              replace kq := kq.on hb'
              replace hB := hB.trans hb
              have hv6 : n ≤ v6.heap.size := by have := hB.size; have := Hn.out; omega
              clear MS cA hb hb'
              have MS := readT hv6 hT (fun K hK => setFreedH_no hK HS.out p HIN.out true)
              have cA := hT.cells.1
              go_wp2_with fail
              refine MS.mono ?_
              rintro e v7 ⟨rfl, hT, hb, hb'⟩
              replace kq := kq.on hb'
              replace hB := hB.trans hb
              have hv7 : n ≤ v7.heap.size := by have := hB.size; have := Hn.out; omega
              clear MS cA hb hb'
              have MS := readT hv7 hT (fun K hK => setSecondH_no hK HS.out p HIN.out 1)
              have cA := hT.cells.1
              go_wp2_with fail
              refine MS.mono ?_
              rintro e v8 ⟨rfl, hT, hb, hb'⟩
              replace kq := kq.on hb'
              replace hB := hB.trans hb
              have hv8 : n ≤ v8.heap.size := by have := hB.size; have := Hn.out; omega
              clear MS cA hb hb'
              go_wp2
              go_roundw
              case rel => exact ⟨l + 1, by omega, by go_num, hT, hB, kq⟩
              case measure => simp [intOf]; omega
          · have d2 : decide ((l : Int) < 4) = false := decide_eq_false (by omega)
            have MS := alikeT hwr hT hG.out
            go_wp2_with fail
            refine MS.mono ?_
            rintro e v5 ⟨rfl, hT, hb⟩
            replace hB := hB.trans hb
            clear MS hb
            go_wp2
            go_ret
            exact ⟨rfl, hB⟩

set_option maxRecDepth 100000 in
theorem lifted (os : Os) (started : os.Started) (H : Type) (enc : TypeId × Value → H) :
    ReturnsInHanded {} Tryz.checked os 7 .any (Rows.heapNobodySpec.pre6 enc Tryz.prog Tryz.f7 Rows.heapNobodyRow.domain false) (Rows.heapNobodySpec.post enc Tryz.prog Tryz.f7 false true false false) := by
  refine returnsInHanded_of_change (C := Tryz.checked) own started (by kernel_rfl) Tryz.func7
    (ChangeSpec.witness6 (enc := enc) (C := Tryz.checked) false ⟨#[], #[.slice none 0 0, .int .i64 0, .int .i64 0], []⟩ 8 (by kernel_rfl) (by kernel_rfl) (by kernel_rfl) (by kernel_rfl)) ?_
  intro W base args ds gs before hval0 hW hcnd _
  have hval : ∀ (j : Nat) t v, Tryz.f7.params[j]? = some t → args[j]? = some v → Value.okWide Tryz.prog W .any base t v := hval0
  have hW' := hW
  obtain ⟨p, q, hA0, hV, rfl, hfz, hnd⟩ := hW
  have hA : DataW.TrodAll enc Tryz.prog W 0 (fun _ => true) true Tryz.f7.params.toList args.toList ds p := hA0
  rw [Tryz.params7] at hA hval
  obtain ⟨v0, vs0, d0, ds0, p0, q0, hargs, rfl, rfl, h0, r0⟩ := trodAll_cons hA
  obtain ⟨v1, vs1, d1, ds1, p1, q1, rfl, rfl, rfl, h1, r1⟩ := trodAll_cons r0
  obtain ⟨v2, vs2, d2, ds2, p2, q2, rfl, rfl, rfl, h2, r2⟩ := trodAll_cons r1
  obtain ⟨rfl, rfl, rfl⟩ := trodAll_nil r2
  obtain rfl : args = #[v0, v1, v2] := by cases args; simp_all
  obtain ⟨rfl, rfl⟩ := trodVars_none hV
  obtain ⟨a0, len0, cap0, rfl⟩ := okWide_slice Tryz.underlying22 (hval 0 22 v0 rfl rfl)
  have k0 := h0
  have lt0 : ∀ x ∈ p0, x.block < W.heap.size := by obtain ⟨m, hm⟩ := k0; exact DataW.trod_lt m _ _ _ hm
  obtain ⟨z0, w0⟩ := open_flats (n := 8) (ks := opKs) Tryz.underlying22 (by kernel_rfl) (by kernel_rfl) (by decide) h0
  obtain ⟨a1, rfl, rfl, rfl, w1⟩ := open_int Tryz.underlying3 (hval 1 3 v1 rfl rfl) h1
  obtain ⟨a2, rfl, rfl, rfl, w2⟩ := open_int Tryz.underlying3 (hval 2 3 v2 rfl rfl) h2
  clear hA0 hval0
  refine (walk a0 len0 cap0 z0 a1 a2 W w0 (bounds_i64 w1) (bounds_i64 w2)).mono fun e W' ⟨he, bel⟩ => ?_
  subst he
  exact ⟨_, rfl, _, _, _, [], _, [], hW', trodAll_mk1 (shut_bool Tryz.underlying4 _), (trodAll_cons_mk (Below.trod laidOut (by kernel_rfl) (of_decide_eq_true (by kernel_rfl)) k0 bel lt0) (trodAll_cons_mk (shut_int Tryz.underlying3 w1) (trodAll_cons_mk (shut_int Tryz.underlying3 w2) trodAll_mk0))), rfl, bel.frame _, fun h => by cases h⟩

theorem over : Rows.heapNobodyRow.holds Tryz.pinned (OpenSpec.ofChange Rows.heapNobodySpec) :=
  OpenClaim.holds_of_wide 7 Tryz.f7 rfl rfl rfl rfl rfl rfl rfl ⟨rfl, rfl, rfl, rfl, rfl⟩ rfl rfl rfl rfl rfl (by kernel_rfl) Tryz.func7 (by kernel_rfl)
    (of_decide_eq_true (by kernel_rfl)) (by unfold Func.isWrapper; first | (rw [if_pos (by decide +kernel)]; kernel_rfl) | (rw [if_neg (by decide +kernel)]; exact ⟨rfl, rfl⟩))
    (fun os started H enc _ => lifted os started H enc)

theorem proved : Rows.HeapNobodySaid := over
#print axioms proved

end Go.Proofs.YtbjmeibcphmgbaaGreat.heapNobody
