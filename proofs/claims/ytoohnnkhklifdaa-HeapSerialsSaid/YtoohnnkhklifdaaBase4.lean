/- Put together: Package heap: Alloc. Condition: the heap is sound, the shape is right. Package heap: Scan. Condition: the heap is right. Package heap: New, Flip. Condition: of New, that many words; of Flip, that the heap is sound. Package heap, at a heap that is right: Alloc, Serial, Room, Here, Flip, Scan, Drop. Condition: the heap is right. The look at chapter 10's example: awake tells true. No condition. Serials stay, whatever is laid or moved. Plain; no condition. What comes in as a value, or as a slice's elements, where all of it is integers and bools in a row of cells (structs, arrays, one in another): opened cell by cell. Plain; no condition. -/
import Derived.Test.YtoohnnkhklifdaaBase3
import Derived.Test.YtoohnnkhklifdaaBase1
import Derived.Test.YtoohnnkhklifdaaRows
import Derived.WalkKit
import Derived.ProofKit
import Derived.OpenShut
import Derived.Below
import Derived.Deep.Slices
import Derived.Deep.Fields
namespace Go.Proofs.Ytoohnnkhklifdaa
open Go.ChangeShapes Go.WideShapes Go.ChangeAt Go.RowKit

set_option linter.unusedSimpArgs false
set_option linter.unusedVariables false

section
variable {w : World} {H P b : Nat} {v0 v1 v2 v3 : Value} {s : Hp} {K : Nat → Prop} {p d : Nat} {wk fn : Bool}
/-- The cells of the space in use, by their places. -/
abbrev InS (u : Int) (i0 i1 i2 H bn z tn : Nat) (y : World) : Prop := y.cell? ⟨H, 9, none⟩ = some (.int .i64 u) ∧ y.cell? ⟨H, i0, none⟩ = some (.int .i64 bn) ∧ y.cell? ⟨H, i1, none⟩ = some (.int .i64 z) ∧ y.cell? ⟨H, i2, none⟩ = some (.int .i64 tn)
theorem HeapIn.in0 (h : HeapIn w H P b v0 v1 v2 v3 s) (hu : s.u = 0) : InS 0 1 2 3 H s.bn s.z s.tn w := ((h.inuse (.inl hu)).resolve_right fun e => absurd (e.1.symm.trans hu) (by decide)).2
theorem HeapIn.in1 (h : HeapIn w H P b v0 v1 v2 v3 s) (hu : s.u = 1) : InS 1 4 5 6 H s.bn s.z s.tn w := ((h.inuse (.inr hu)).resolve_left fun e => absurd (e.1.symm.trans hu) (by decide)).2
theorem HeapIn.not_foot (h : HeapIn w H P b v0 v1 v2 v3 s) {q : Nat} {cs : Array Value} {ty : TypeId} (hq : BlkIs w q cs ty) (t1 : ty ≠ 53) (t2 : ty ≠ 76) (t3 : ty ≠ 79) (t4 : ty ≠ 3) : ¬ Foot H P b v0 v1 v2 v3 q := fun hf => by
  rcases foot_of hf with e | e | e | ⟨i, hi, e⟩
  · exact ne_of_types hq h.blk t1 e
  · exact ne_of_types hq h.ar.head t2 e
  · exact ne_of_types hq h.ar.row t3 e
  · exact (h.row i hi).ne hq (fun e => t4 e.symm) e

theorem allocH_full (h : HeapIn w H P b v0 v1 v2 v3 s) (g : Sound s) (o1 : shB p d wk fn = true) (o2 : p ≤ 8) (o3 : d ≤ 8) (hr : s.room < Cls.rd (3 + p + d)) :
    Calls Try.prog 6 #[.pointer (some ⟨H, 0, none⟩), shV p d wk fn] w fun e w' => e = .returned (.tuple #[.int .i64 0, .int .i64 100]) ∧ Below w.heap.size w w' := by
  have hb0 := (Below.refl w.heap.size w).alloc (Nat.le_refl _) (.cells #[.int .i64 p, .int .i64 d, .bool wk, .bool fn] 32)
  have HT := taken_ok p d wk fn o1 o2 o3
  have HR := fun x (hx : Below w.heap.size w x) => room_any (h.on hx) g
  clear h g
  generalize Cls.rd (3 + p + d) = r at *
  generalize s.room = m at *
  have d0 : decide ((m : Int) < (r : Int)) = true := decide_eq_true (by omega)
  go_enter Try.func6, Try.ntmps6
  go_wp2_with fail
  refine (HT _).mono ?_
  rintro e x ⟨rfl, hb⟩
  replace hb := hb0.trans (hb.mono hb0.size)
  go_wp2_with fail
  refine (HR _ hb).mono ?_
  rintro e y ⟨rfl, hb2⟩
  replace hb := hb.trans (hb2.mono hb.size)
  go_wp2
  go_ret2
  exact ⟨rfl, hb⟩

set_option maxRecDepth 100000 in
set_option maxHeartbeats 4000000 in
theorem allocH_yes (h : HeapIn w H P b v0 v1 v2 v3 s) (hF : ∀ k, Foot H P b v0 v1 v2 v3 k → K k) (g : Sound s) (o1 : shB p d wk fn = true) (o2 : p ≤ 8) (o3 : d ≤ 8) (hr : Cls.rd (3 + p + d) ≤ s.room) (hse : s.se < 1099511627776) (hln : s.l.length = 2 * s.z + 1) (hwl : s.wk.length ≤ s.se) (hfl : s.fi.length ≤ s.se) :
    Calls Try.prog 6 #[.pointer (some ⟨H, 0, none⟩), shV p d wk fn] w fun e w' => e = .returned (.tuple #[.int .i64 s.tn, .int .i64 0]) ∧ Went w K H (s.lay p d wk fn) w' := by
  have hb0 := (Below.refl w.heap.size w).alloc (Nat.le_refl _) (.cells #[.int .i64 p, .int .i64 d, .bool wk, .bool fn] 32)
  have kq := BlkIs.new w #[.int .i64 p, .int .i64 d, .bool wk, .bool fn] 32
  have HT := taken_ok p d wk fn o1 o2 o3
  have HR := fun x (hx : Below w.heap.size w x) => room_any (h.on hx) g
  have hrm : s.room = s.bn + s.z - s.tn - s.ow := rfl
  have g0 := g.t0
  have g1 := g.t1
  have gz := g.z1
  have hbn : 1 ≤ s.bn ∧ s.bn ≤ 16385 ∧ s.bn + s.z ≤ s.l.length := by rw [hln]; have := g.z1; unfold Hp.bn Hp.base; split <;> omega
  have hge : 3 + p + d ≤ Cls.rd (3 + p + d) := Cls.rd_ge (by omega)
  have M3 := take_yes s.bn s.z s.tn (Cls.rd (3 + p + d)) ⟨by omega, by omega, by omega, by omega⟩ (by omega) (by omega) (by rw [Cls.rd_rd (by omega)]; omega)
  rw [Cls.rd_rd (by omega)] at M3
  have M4 := fun x (hx : ArenaAt 76 x P b s.l) => make_yes (wk := wk) (fn := fn) s.tn (s.se + 1) x hx o1 o2 o3 (by omega) (by omega)
  obtain ⟨s', hs'⟩ : ∃ s', s.lay p d wk fn = s' := ⟨_, rfl⟩
  rw [hs']
  have Hs := Lib.hid hs'
  clear hs'
  obtain ⟨t2, ht2⟩ : ∃ t2, s.tn + Cls.rd (3 + p + d) = t2 := ⟨_, rfl⟩
  have Ht := Lib.hid ht2
  rw [ht2] at M3
  clear ht2
  obtain ⟨r, hrr⟩ : ∃ r, Cls.rd (3 + p + d) = r := ⟨_, rfl⟩
  have Hr := Lib.hid hrr
  rw [hrr] at HT hr hge Ht M3
  clear hrm hrr
  generalize s.room = m at *
  have d0 : decide ((m : Int) < (r : Int)) = false := decide_eq_false (by omega)
  have d2 : decide (m < r) = false := decide_eq_false (by omega)
  have d1 : ((s.se : Int) == 1099511627776) = false := by simp; omega
  have i1 : IntKind.i64.wrap ((s.se : Int) + 1) = ((s.se + 1 : Nat) : Int) := by rw [IntWalk.i64_in _ (by omega)]; omega
  obtain ⟨se1, hse1⟩ : ∃ se1, s.se + 1 = se1 := ⟨_, rfl⟩
  rw [hse1] at i1 M4
  have Hse := Lib.hid hse1
  clear hse1
  obtain ⟨q, hq⟩ : ∃ q, w.heap.size = q := ⟨_, rfl⟩
  go_enter Try.func6, Try.ntmps6
  go_wp2_with fail
  refine (HT _).mono ?_
  rintro e x ⟨rfl, hb⟩
  replace kq := kq.more hb (Nat.le_refl _)
  replace hb := hb0.trans (hb.mono hb0.size)
  go_wp2_with fail
  refine (HR _ hb).mono ?_
  rintro e y ⟨rfl, hb2⟩
  replace kq := kq.more hb2 (Nat.le_refl _)
  replace hb := hb.trans (hb2.mono hb.size)
  have hx := h.on hb
  have hbx := hb
  have cse : y.cell? ⟨H, 13, none⟩ = some (.int .i64 s.se) := hx.blk.cell 13
  clear hb2 hb HT HR x h hb0
  rw [hq] at kq
  have Hq := Lib.hid hq
  clear hq
  generalize y = x at *
  go_upto_region 6 with fail
  clear cse d0 d1
  go_cut [8, 9, 10] from 29 to 91 (fun s8 s9 s10 wx => ∃ m : Nat, s8 = .pointer (some ⟨m, 0, none⟩) ∧ s9 = .int .i64 s.tn ∧ BlkIs wx m #[.int .i64 s.bn, .int .i64 s.z, .int .i64 t2] 47 ∧ BlkIs wx q #[.int .i64 p, .int .i64 d, .bool wk, .bool fn] 32 ∧ HeapIn wx H P b v0 v1 v2 v3 s ∧ Below w.heap.size w wx)
  case first =>
    rcases g.u01 with hu | hu
    · refine wp_region_noPanic ?_
      have hd : HeapIn x.drew H P b v0 v1 v2 v3 s := hx.on (Below.refl _ x).drew
      have kd : BlkIs x.drew q _ _ := kq
      have hbd := hbx.drew
      refine wp_region_held_drew (S := InS 0 1 2 3 H s.bn s.z s.tn) (by kernel_rfl) (hd.in0 hu) (fun hS => ?_)
      first
      | (refine wpAnyH_take (i := 0) (v := ?_) rfl (by kernel_rfl) (by kernel_rfl) (by kernel_rfl) (fun _ _ _ h => h) (Or.inl ⟨by rfl, ?_⟩) hS ?_; rotate_left; (· (intro y hy; (try dsimp only at hy); go_simp; try with_reducible rfl)); try simp only [Act.put, List.setIfInBounds_toArray, List.set_cons_zero, List.set_cons_succ, List.getElem_toArray, List.getElem_cons_zero, List.getElem_cons_succ])
      | (refine wpAnyH_take (i := 0) (v := undef) rfl (by kernel_rfl) (by kernel_rfl) (by kernel_rfl) (fun _ _ _ h => h) (Or.inr ⟨by rfl, rfl⟩) hS ?_; try simp only [Act.put, List.setIfInBounds_toArray, List.set_cons_zero, List.set_cons_succ, List.getElem_toArray, List.getElem_cons_zero, List.getElem_cons_succ])
      first
      | (refine wpAnyH_take (i := 1) (v := ?_) rfl (by kernel_rfl) (by kernel_rfl) (by kernel_rfl) (fun _ _ _ h => h) (Or.inl ⟨by rfl, ?_⟩) hS ?_; rotate_left; (· (intro y hy; (try dsimp only at hy); go_simp; try with_reducible rfl)); try simp only [Act.put, List.setIfInBounds_toArray, List.set_cons_zero, List.set_cons_succ, List.getElem_toArray, List.getElem_cons_zero, List.getElem_cons_succ])
      | (refine wpAnyH_take (i := 1) (v := undef) rfl (by kernel_rfl) (by kernel_rfl) (by kernel_rfl) (fun _ _ _ h => h) (Or.inr ⟨by rfl, rfl⟩) hS ?_; try simp only [Act.put, List.setIfInBounds_toArray, List.set_cons_zero, List.set_cons_succ, List.getElem_toArray, List.getElem_cons_zero, List.getElem_cons_succ])
      first
      | (refine wpAnyH_take (i := 2) (v := ?_) rfl (by kernel_rfl) (by kernel_rfl) (by kernel_rfl) (fun _ _ _ h => h) (Or.inl ⟨by rfl, ?_⟩) hS ?_; rotate_left; (· (intro y hy; (try dsimp only at hy); go_simp; try with_reducible rfl)); try simp only [Act.put, List.setIfInBounds_toArray, List.set_cons_zero, List.set_cons_succ, List.getElem_toArray, List.getElem_cons_zero, List.getElem_cons_succ])
      | (refine wpAnyH_take (i := 2) (v := undef) rfl (by kernel_rfl) (by kernel_rfl) (by kernel_rfl) (fun _ _ _ h => h) (Or.inr ⟨by rfl, rfl⟩) hS ?_; try simp only [Act.put, List.setIfInBounds_toArray, List.set_cons_zero, List.set_cons_succ, List.getElem_toArray, List.getElem_cons_zero, List.getElem_cons_succ])
      first
      | (refine wpAnyH_take (i := 3) (v := ?_) rfl (by kernel_rfl) (by kernel_rfl) (by kernel_rfl) (fun _ _ _ h => h) (Or.inl ⟨by rfl, ?_⟩) hS ?_; rotate_left; (· (intro y hy; (try dsimp only at hy); go_simp; try with_reducible rfl)); try simp only [Act.put, List.setIfInBounds_toArray, List.set_cons_zero, List.set_cons_succ, List.getElem_toArray, List.getElem_cons_zero, List.getElem_cons_succ])
      | (refine wpAnyH_take (i := 3) (v := undef) rfl (by kernel_rfl) (by kernel_rfl) (by kernel_rfl) (fun _ _ _ h => h) (Or.inr ⟨by rfl, rfl⟩) hS ?_; try simp only [Act.put, List.setIfInBounds_toArray, List.set_cons_zero, List.set_cons_succ, List.getElem_toArray, List.getElem_cons_zero, List.getElem_cons_succ])
      first
      | (refine wpAnyH_take (i := 4) (v := ?_) rfl (by kernel_rfl) (by kernel_rfl) (by kernel_rfl) (fun _ _ _ h => h) (Or.inl ⟨by rfl, ?_⟩) hS ?_; rotate_left; (· (intro y hy; (try dsimp only at hy); go_simp; try with_reducible rfl)); try simp only [Act.put, List.setIfInBounds_toArray, List.set_cons_zero, List.set_cons_succ, List.getElem_toArray, List.getElem_cons_zero, List.getElem_cons_succ])
      | (refine wpAnyH_take (i := 4) (v := undef) rfl (by kernel_rfl) (by kernel_rfl) (by kernel_rfl) (fun _ _ _ h => h) (Or.inr ⟨by rfl, rfl⟩) hS ?_; try simp only [Act.put, List.setIfInBounds_toArray, List.set_cons_zero, List.set_cons_succ, List.getElem_toArray, List.getElem_cons_zero, List.getElem_cons_succ])
      first
      | (refine wpAnyH_take (i := 5) (v := ?_) rfl (by kernel_rfl) (by kernel_rfl) (by kernel_rfl) (fun _ _ _ h => h) (Or.inl ⟨by rfl, ?_⟩) hS ?_; rotate_left; (· (intro y hy; (try dsimp only at hy); go_simp; try with_reducible rfl)); try simp only [Act.put, List.setIfInBounds_toArray, List.set_cons_zero, List.set_cons_succ, List.getElem_toArray, List.getElem_cons_zero, List.getElem_cons_succ])
      | (refine wpAnyH_take (i := 5) (v := undef) rfl (by kernel_rfl) (by kernel_rfl) (by kernel_rfl) (fun _ _ _ h => h) (Or.inr ⟨by rfl, rfl⟩) hS ?_; try simp only [Act.put, List.setIfInBounds_toArray, List.set_cons_zero, List.set_cons_succ, List.getElem_toArray, List.getElem_cons_zero, List.getElem_cons_succ])
      first
      | (refine wpAnyH_take (i := 6) (v := ?_) rfl (by kernel_rfl) (by kernel_rfl) (by kernel_rfl) (fun _ _ _ h => h) (Or.inl ⟨by rfl, ?_⟩) hS ?_; rotate_left; (· (intro y hy; (try dsimp only at hy); go_simp; try with_reducible rfl)); try simp only [Act.put, List.setIfInBounds_toArray, List.set_cons_zero, List.set_cons_succ, List.getElem_toArray, List.getElem_cons_zero, List.getElem_cons_succ])
      | (refine wpAnyH_take (i := 6) (v := undef) rfl (by kernel_rfl) (by kernel_rfl) (by kernel_rfl) (fun _ _ _ h => h) (Or.inr ⟨by rfl, rfl⟩) hS ?_; try simp only [Act.put, List.setIfInBounds_toArray, List.set_cons_zero, List.set_cons_succ, List.getElem_toArray, List.getElem_cons_zero, List.getElem_cons_succ])
      first
      | (refine wpAnyH_take (i := 7) (v := ?_) rfl (by kernel_rfl) (by kernel_rfl) (by kernel_rfl) (fun _ _ _ h => h) (Or.inl ⟨by rfl, ?_⟩) hS ?_; rotate_left; (· (intro y hy; (try dsimp only at hy); go_simp; try with_reducible rfl)); try simp only [Act.put, List.setIfInBounds_toArray, List.set_cons_zero, List.set_cons_succ, List.getElem_toArray, List.getElem_cons_zero, List.getElem_cons_succ])
      | (refine wpAnyH_take (i := 7) (v := undef) rfl (by kernel_rfl) (by kernel_rfl) (by kernel_rfl) (fun _ _ _ h => h) (Or.inr ⟨by rfl, rfl⟩) hS ?_; try simp only [Act.put, List.setIfInBounds_toArray, List.set_cons_zero, List.set_cons_succ, List.getElem_toArray, List.getElem_cons_zero, List.getElem_cons_succ])
      first
      | (refine wpAnyH_take (i := 8) (v := ?_) rfl (by kernel_rfl) (by kernel_rfl) (by kernel_rfl) (fun _ _ _ h => h) (Or.inl ⟨by rfl, ?_⟩) hS ?_; rotate_left; (· (intro y hy; (try dsimp only at hy); go_simp; try with_reducible rfl)); try simp only [Act.put, List.setIfInBounds_toArray, List.set_cons_zero, List.set_cons_succ, List.getElem_toArray, List.getElem_cons_zero, List.getElem_cons_succ])
      | (refine wpAnyH_take (i := 8) (v := undef) rfl (by kernel_rfl) (by kernel_rfl) (by kernel_rfl) (fun _ _ _ h => h) (Or.inr ⟨by rfl, rfl⟩) hS ?_; try simp only [Act.put, List.setIfInBounds_toArray, List.set_cons_zero, List.set_cons_succ, List.getElem_toArray, List.getElem_cons_zero, List.getElem_cons_succ])
      first
      | (refine wpAnyH_take (i := 9) (v := ?_) rfl (by kernel_rfl) (by kernel_rfl) (by kernel_rfl) (fun _ _ _ h => h) (Or.inl ⟨by rfl, ?_⟩) hS ?_; rotate_left; (· (intro y hy; (try dsimp only at hy); go_simp; try with_reducible rfl)); try simp only [Act.put, List.setIfInBounds_toArray, List.set_cons_zero, List.set_cons_succ, List.getElem_toArray, List.getElem_cons_zero, List.getElem_cons_succ])
      | (refine wpAnyH_take (i := 9) (v := undef) rfl (by kernel_rfl) (by kernel_rfl) (by kernel_rfl) (fun _ _ _ h => h) (Or.inr ⟨by rfl, rfl⟩) hS ?_; try simp only [Act.put, List.setIfInBounds_toArray, List.set_cons_zero, List.set_cons_succ, List.getElem_toArray, List.getElem_cons_zero, List.getElem_cons_succ])
      refine wpAnyH_ready (rs := [10, 15]) (by kernel_rfl) (by simp) ?_
      refine AllReadyH.cons (o := _) rfl (fun K hK => ?_) (AllReadyH.cons (o := _) rfl (fun K hK => ?_) AllReadyH.nil)
      · go_simp
        refine (M3 _).mono ?_
        rintro e v ⟨rfl, hb⟩
        have hv := hd.on hb
        have kv := kd.more hb (Nat.le_refl _)
        have hbv := hbd.trans (hb.mono hbd.size)
        refine hK.out _ _ (hv.in0 hu) (fun hS => ?_)
        clear hK K
        try simp only [Act.put, List.setIfInBounds_toArray, List.set_cons_zero, List.set_cons_succ]
        first
        | (refine wpAnyH_take (i := 11) (v := ?_) rfl (by kernel_rfl) (by kernel_rfl) (by kernel_rfl) (fun _ _ _ h => h) (Or.inl ⟨by rfl, ?_⟩) hS ?_; rotate_left; (· (intro y hy; (try dsimp only at hy); go_simp; try with_reducible rfl)); try simp only [Act.put, List.setIfInBounds_toArray, List.set_cons_zero, List.set_cons_succ, List.getElem_toArray, List.getElem_cons_zero, List.getElem_cons_succ])
        | (refine wpAnyH_take (i := 11) (v := undef) rfl (by kernel_rfl) (by kernel_rfl) (by kernel_rfl) (fun _ _ _ h => h) (Or.inr ⟨by rfl, rfl⟩) hS ?_; try simp only [Act.put, List.setIfInBounds_toArray, List.set_cons_zero, List.set_cons_succ, List.getElem_toArray, List.getElem_cons_zero, List.getElem_cons_succ])
        first
        | (refine wpAnyH_take (i := 12) (v := ?_) rfl (by kernel_rfl) (by kernel_rfl) (by kernel_rfl) (fun _ _ _ h => h) (Or.inl ⟨by rfl, ?_⟩) hS ?_; rotate_left; (· (intro y hy; (try dsimp only at hy); go_simp; try with_reducible rfl)); try simp only [Act.put, List.setIfInBounds_toArray, List.set_cons_zero, List.set_cons_succ, List.getElem_toArray, List.getElem_cons_zero, List.getElem_cons_succ])
        | (refine wpAnyH_take (i := 12) (v := undef) rfl (by kernel_rfl) (by kernel_rfl) (by kernel_rfl) (fun _ _ _ h => h) (Or.inr ⟨by rfl, rfl⟩) hS ?_; try simp only [Act.put, List.setIfInBounds_toArray, List.set_cons_zero, List.set_cons_succ, List.getElem_toArray, List.getElem_cons_zero, List.getElem_cons_succ])
        first
        | (refine wpAnyH_take (i := 13) (v := ?_) rfl (by kernel_rfl) (by kernel_rfl) (by kernel_rfl) (fun _ _ _ h => h) (Or.inl ⟨by rfl, ?_⟩) hS ?_; rotate_left; (· (intro y hy; (try dsimp only at hy); go_simp; try with_reducible rfl)); try simp only [Act.put, List.setIfInBounds_toArray, List.set_cons_zero, List.set_cons_succ, List.getElem_toArray, List.getElem_cons_zero, List.getElem_cons_succ])
        | (refine wpAnyH_take (i := 13) (v := undef) rfl (by kernel_rfl) (by kernel_rfl) (by kernel_rfl) (fun _ _ _ h => h) (Or.inr ⟨by rfl, rfl⟩) hS ?_; try simp only [Act.put, List.setIfInBounds_toArray, List.set_cons_zero, List.set_cons_succ, List.getElem_toArray, List.getElem_cons_zero, List.getElem_cons_succ])
        first
        | (refine wpAnyH_take (i := 14) (v := ?_) rfl (by kernel_rfl) (by kernel_rfl) (by kernel_rfl) (fun _ _ _ h => h) (Or.inl ⟨by rfl, ?_⟩) hS ?_; rotate_left; (· (intro y hy; (try dsimp only at hy); go_simp; try with_reducible rfl)); try simp only [Act.put, List.setIfInBounds_toArray, List.set_cons_zero, List.set_cons_succ, List.getElem_toArray, List.getElem_cons_zero, List.getElem_cons_succ])
        | (refine wpAnyH_take (i := 14) (v := undef) rfl (by kernel_rfl) (by kernel_rfl) (by kernel_rfl) (fun _ _ _ h => h) (Or.inr ⟨by rfl, rfl⟩) hS ?_; try simp only [Act.put, List.setIfInBounds_toArray, List.set_cons_zero, List.set_cons_succ, List.getElem_toArray, List.getElem_cons_zero, List.getElem_cons_succ])
        refine wpAnyH_ready (rs := [15]) (by kernel_rfl) (by simp) ?_
        refine AllReadyH.cons (o := _) rfl (fun K hK => ?_) AllReadyH.nil
        go_simp
        have hv2 := hv.on ((Below.refl _ v).alloc (Nat.le_refl _) (.cells #[.int .i64 0, .int .i64 0, .int .i64 0] 47))
        refine hK.out _ _ (hv2.in0 hu) (fun hS => ?_)
        clear hK K
        try simp only [Act.put, List.setIfInBounds_toArray, List.set_cons_zero, List.set_cons_succ]
        refine wpAnyH_ready (rs := [16]) (by kernel_rfl) (by simp) ?_
        refine AllReadyH.cons (o := _) rfl (fun K hK => ?_) AllReadyH.nil
        go_simp
        have hb3 := (Below.refl _ v).alloc (Nat.le_refl _) (.cells #[.int .i64 s.bn, .int .i64 s.z, .int .i64 t2] 47)
        have hv3 := hv.on hb3
        refine hK.out _ _ (hv3.in0 hu) (fun hS => ?_)
        clear hK K
        try simp only [Act.put, List.setIfInBounds_toArray, List.set_cons_zero, List.set_cons_succ]
        first
        | (refine wpAnyH_take (i := 17) (v := ?_) rfl (by kernel_rfl) (by kernel_rfl) (by kernel_rfl) (fun _ _ _ h => h) (Or.inl ⟨by rfl, ?_⟩) hS ?_; rotate_left; (· (intro y hy; (try dsimp only at hy); go_simp; try with_reducible rfl)); try simp only [Act.put, List.setIfInBounds_toArray, List.set_cons_zero, List.set_cons_succ, List.getElem_toArray, List.getElem_cons_zero, List.getElem_cons_succ])
        | (refine wpAnyH_take (i := 17) (v := undef) rfl (by kernel_rfl) (by kernel_rfl) (by kernel_rfl) (fun _ _ _ h => h) (Or.inr ⟨by rfl, rfl⟩) hS ?_; try simp only [Act.put, List.setIfInBounds_toArray, List.set_cons_zero, List.set_cons_succ, List.getElem_toArray, List.getElem_cons_zero, List.getElem_cons_succ])
        first
        | (refine wpAnyH_take (i := 18) (v := ?_) rfl (by kernel_rfl) (by kernel_rfl) (by kernel_rfl) (fun _ _ _ h => h) (Or.inl ⟨by rfl, ?_⟩) hS ?_; rotate_left; (· (intro y hy; (try dsimp only at hy); go_simp; try with_reducible rfl)); try simp only [Act.put, List.setIfInBounds_toArray, List.set_cons_zero, List.set_cons_succ, List.getElem_toArray, List.getElem_cons_zero, List.getElem_cons_succ])
        | (refine wpAnyH_take (i := 18) (v := undef) rfl (by kernel_rfl) (by kernel_rfl) (by kernel_rfl) (fun _ _ _ h => h) (Or.inr ⟨by rfl, rfl⟩) hS ?_; try simp only [Act.put, List.setIfInBounds_toArray, List.set_cons_zero, List.set_cons_succ, List.getElem_toArray, List.getElem_cons_zero, List.getElem_cons_succ])
        refine wpAnyH_done (by kernel_rfl) ?_ _
        refine NoPanic.normal ?_
        go_wp2_with fail
        go_meet
        exact ⟨_, rfl, rfl, BlkIs.new v _ _, kv.more hb3 (Nat.le_refl _), hv3, hbv.trans (hb3.mono hbv.size)⟩
      · go_simp
        have hb1 := (Below.refl _ x.drew).alloc (Nat.le_refl _) (.cells #[.int .i64 0, .int .i64 0, .int .i64 0] 47)
        have h1 := hd.on hb1
        have k1 := kd.more hb1 (Nat.le_refl _)
        have m1 : BlkIs _ x.heap.size _ _ := BlkIs.new x.drew #[.int .i64 0, .int .i64 0, .int .i64 0] 47
        have hb1w := hbd.trans (hb1.mono hbd.size)
        have hxw : w.heap.size ≤ x.heap.size := hbx.size
        have hHx : H < x.heap.size := hx.blk.lt
        have hqx : q < x.heap.size := kq.lt
        refine hK.out _ _ (h1.in0 hu) (fun hS => ?_)
        clear hK K
        try simp only [Act.put, List.setIfInBounds_toArray, List.set_cons_zero, List.set_cons_succ]
        refine wpAnyH_ready (rs := [10]) (by kernel_rfl) (by simp) ?_
        refine AllReadyH.cons (o := _) rfl (fun K hK => ?_) AllReadyH.nil
        go_simp
        refine (M3 _).mono ?_
        rintro e v ⟨rfl, hb⟩
        have hv := h1.on hb
        have kv := k1.more hb (Nat.le_refl _)
        have mv := m1.more hb (Nat.le_refl _)
        have hbv := hb1w.trans (hb.mono hb1w.size)
        have hxv : x.heap.size < v.heap.size := mv.lt
        refine hK.out _ _ (hv.in0 hu) (fun hS => ?_)
        clear hK K
        try simp only [Act.put, List.setIfInBounds_toArray, List.set_cons_zero, List.set_cons_succ]
        first
        | (refine wpAnyH_take (i := 11) (v := ?_) rfl (by kernel_rfl) (by kernel_rfl) (by kernel_rfl) (fun _ _ _ h => h) (Or.inl ⟨by rfl, ?_⟩) hS ?_; rotate_left; (· (intro y hy; (try dsimp only at hy); go_simp; try with_reducible rfl)); try simp only [Act.put, List.setIfInBounds_toArray, List.set_cons_zero, List.set_cons_succ, List.getElem_toArray, List.getElem_cons_zero, List.getElem_cons_succ])
        | (refine wpAnyH_take (i := 11) (v := undef) rfl (by kernel_rfl) (by kernel_rfl) (by kernel_rfl) (fun _ _ _ h => h) (Or.inr ⟨by rfl, rfl⟩) hS ?_; try simp only [Act.put, List.setIfInBounds_toArray, List.set_cons_zero, List.set_cons_succ, List.getElem_toArray, List.getElem_cons_zero, List.getElem_cons_succ])
        first
        | (refine wpAnyH_take (i := 12) (v := ?_) rfl (by kernel_rfl) (by kernel_rfl) (by kernel_rfl) (fun _ _ _ h => h) (Or.inl ⟨by rfl, ?_⟩) hS ?_; rotate_left; (· (intro y hy; (try dsimp only at hy); go_simp; try with_reducible rfl)); try simp only [Act.put, List.setIfInBounds_toArray, List.set_cons_zero, List.set_cons_succ, List.getElem_toArray, List.getElem_cons_zero, List.getElem_cons_succ])
        | (refine wpAnyH_take (i := 12) (v := undef) rfl (by kernel_rfl) (by kernel_rfl) (by kernel_rfl) (fun _ _ _ h => h) (Or.inr ⟨by rfl, rfl⟩) hS ?_; try simp only [Act.put, List.setIfInBounds_toArray, List.set_cons_zero, List.set_cons_succ, List.getElem_toArray, List.getElem_cons_zero, List.getElem_cons_succ])
        first
        | (refine wpAnyH_take (i := 13) (v := ?_) rfl (by kernel_rfl) (by kernel_rfl) (by kernel_rfl) (fun _ _ _ h => h) (Or.inl ⟨by rfl, ?_⟩) hS ?_; rotate_left; (· (intro y hy; (try dsimp only at hy); go_simp; try with_reducible rfl)); try simp only [Act.put, List.setIfInBounds_toArray, List.set_cons_zero, List.set_cons_succ, List.getElem_toArray, List.getElem_cons_zero, List.getElem_cons_succ])
        | (refine wpAnyH_take (i := 13) (v := undef) rfl (by kernel_rfl) (by kernel_rfl) (by kernel_rfl) (fun _ _ _ h => h) (Or.inr ⟨by rfl, rfl⟩) hS ?_; try simp only [Act.put, List.setIfInBounds_toArray, List.set_cons_zero, List.set_cons_succ, List.getElem_toArray, List.getElem_cons_zero, List.getElem_cons_succ])
        first
        | (refine wpAnyH_take (i := 14) (v := ?_) rfl (by kernel_rfl) (by kernel_rfl) (by kernel_rfl) (fun _ _ _ h => h) (Or.inl ⟨by rfl, ?_⟩) hS ?_; rotate_left; (· (intro y hy; (try dsimp only at hy); go_simp; try with_reducible rfl)); try simp only [Act.put, List.setIfInBounds_toArray, List.set_cons_zero, List.set_cons_succ, List.getElem_toArray, List.getElem_cons_zero, List.getElem_cons_succ])
        | (refine wpAnyH_take (i := 14) (v := undef) rfl (by kernel_rfl) (by kernel_rfl) (by kernel_rfl) (fun _ _ _ h => h) (Or.inr ⟨by rfl, rfl⟩) hS ?_; try simp only [Act.put, List.setIfInBounds_toArray, List.set_cons_zero, List.set_cons_succ, List.getElem_toArray, List.getElem_cons_zero, List.getElem_cons_succ])
        obtain ⟨⟨d0, d1, d2⟩, g0, g1, g2⟩ := blk3 mv
        refine wpAnyH_ready (rs := [16]) (by kernel_rfl) (by simp) ?_
        refine AllReadyH.cons (o := _) rfl (fun K hK => ?_) AllReadyH.nil
        go_simp
        have hcs : Chg (· = x.heap.size) v _ := (((Chg.refl (· = x.heap.size) v).setCell (p := ⟨x.heap.size, 0, none⟩) (.inl rfl) (.int .i64 s.bn)).setCell (p := ⟨x.heap.size, 1, none⟩) (.inl rfl) (.int .i64 s.z)).setCell (p := ⟨x.heap.size, 2, none⟩) (.inl rfl) (.int .i64 t2)
        have hv3 := hv.chg hcs fun k hk e => by subst e; have := hx.lt (P := P) (b := b) hk; omega
        have kv3 := kv.chg hcs (by omega)
        have m3 : BlkIs _ x.heap.size #[.int .i64 s.bn, .int .i64 s.z, .int .i64 t2] _ := ((mv.set 0 (.int .i64 s.bn)).set 1 (.int .i64 s.z)).set 2 (.int .i64 t2)
        have hb3 := hbv.trans (hcs.below (n := w.heap.size) (fun k e => by omega) (by omega))
        refine hK.out _ _ (hv3.in0 hu) (fun hS => ?_)
        clear hK K
        try simp only [Act.put, List.setIfInBounds_toArray, List.set_cons_zero, List.set_cons_succ]
        first
        | (refine wpAnyH_take (i := 17) (v := ?_) rfl (by kernel_rfl) (by kernel_rfl) (by kernel_rfl) (fun _ _ _ h => h) (Or.inl ⟨by rfl, ?_⟩) hS ?_; rotate_left; (· (intro y hy; (try dsimp only at hy); go_simp; try with_reducible rfl)); try simp only [Act.put, List.setIfInBounds_toArray, List.set_cons_zero, List.set_cons_succ, List.getElem_toArray, List.getElem_cons_zero, List.getElem_cons_succ])
        | (refine wpAnyH_take (i := 17) (v := undef) rfl (by kernel_rfl) (by kernel_rfl) (by kernel_rfl) (fun _ _ _ h => h) (Or.inr ⟨by rfl, rfl⟩) hS ?_; try simp only [Act.put, List.setIfInBounds_toArray, List.set_cons_zero, List.set_cons_succ, List.getElem_toArray, List.getElem_cons_zero, List.getElem_cons_succ])
        first
        | (refine wpAnyH_take (i := 18) (v := ?_) rfl (by kernel_rfl) (by kernel_rfl) (by kernel_rfl) (fun _ _ _ h => h) (Or.inl ⟨by rfl, ?_⟩) hS ?_; rotate_left; (· (intro y hy; (try dsimp only at hy); go_simp; try with_reducible rfl)); try simp only [Act.put, List.setIfInBounds_toArray, List.set_cons_zero, List.set_cons_succ, List.getElem_toArray, List.getElem_cons_zero, List.getElem_cons_succ])
        | (refine wpAnyH_take (i := 18) (v := undef) rfl (by kernel_rfl) (by kernel_rfl) (by kernel_rfl) (fun _ _ _ h => h) (Or.inr ⟨by rfl, rfl⟩) hS ?_; try simp only [Act.put, List.setIfInBounds_toArray, List.set_cons_zero, List.set_cons_succ, List.getElem_toArray, List.getElem_cons_zero, List.getElem_cons_succ])
        refine wpAnyH_done (by kernel_rfl) ?_ _
        refine NoPanic.normal ?_
        go_wp2_with fail
        go_meet
        exact ⟨_, rfl, rfl, m3, kv3, hv3, hb3⟩
    · refine wp_region_noPanic ?_
      have hd : HeapIn x.drew H P b v0 v1 v2 v3 s := hx.on (Below.refl _ x).drew
      have kd : BlkIs x.drew q _ _ := kq
      have hbd := hbx.drew
      refine wp_region_held_drew (S := InS 1 4 5 6 H s.bn s.z s.tn) (by kernel_rfl) (hd.in1 hu) (fun hS => ?_)
      first
      | (refine wpAnyH_take (i := 0) (v := ?_) rfl (by kernel_rfl) (by kernel_rfl) (by kernel_rfl) (fun _ _ _ h => h) (Or.inl ⟨by rfl, ?_⟩) hS ?_; rotate_left; (· (intro y hy; (try dsimp only at hy); go_simp; try with_reducible rfl)); try simp only [Act.put, List.setIfInBounds_toArray, List.set_cons_zero, List.set_cons_succ, List.getElem_toArray, List.getElem_cons_zero, List.getElem_cons_succ])
      | (refine wpAnyH_take (i := 0) (v := undef) rfl (by kernel_rfl) (by kernel_rfl) (by kernel_rfl) (fun _ _ _ h => h) (Or.inr ⟨by rfl, rfl⟩) hS ?_; try simp only [Act.put, List.setIfInBounds_toArray, List.set_cons_zero, List.set_cons_succ, List.getElem_toArray, List.getElem_cons_zero, List.getElem_cons_succ])
      first
      | (refine wpAnyH_take (i := 1) (v := ?_) rfl (by kernel_rfl) (by kernel_rfl) (by kernel_rfl) (fun _ _ _ h => h) (Or.inl ⟨by rfl, ?_⟩) hS ?_; rotate_left; (· (intro y hy; (try dsimp only at hy); go_simp; try with_reducible rfl)); try simp only [Act.put, List.setIfInBounds_toArray, List.set_cons_zero, List.set_cons_succ, List.getElem_toArray, List.getElem_cons_zero, List.getElem_cons_succ])
      | (refine wpAnyH_take (i := 1) (v := undef) rfl (by kernel_rfl) (by kernel_rfl) (by kernel_rfl) (fun _ _ _ h => h) (Or.inr ⟨by rfl, rfl⟩) hS ?_; try simp only [Act.put, List.setIfInBounds_toArray, List.set_cons_zero, List.set_cons_succ, List.getElem_toArray, List.getElem_cons_zero, List.getElem_cons_succ])
      first
      | (refine wpAnyH_take (i := 2) (v := ?_) rfl (by kernel_rfl) (by kernel_rfl) (by kernel_rfl) (fun _ _ _ h => h) (Or.inl ⟨by rfl, ?_⟩) hS ?_; rotate_left; (· (intro y hy; (try dsimp only at hy); go_simp; try with_reducible rfl)); try simp only [Act.put, List.setIfInBounds_toArray, List.set_cons_zero, List.set_cons_succ, List.getElem_toArray, List.getElem_cons_zero, List.getElem_cons_succ])
      | (refine wpAnyH_take (i := 2) (v := undef) rfl (by kernel_rfl) (by kernel_rfl) (by kernel_rfl) (fun _ _ _ h => h) (Or.inr ⟨by rfl, rfl⟩) hS ?_; try simp only [Act.put, List.setIfInBounds_toArray, List.set_cons_zero, List.set_cons_succ, List.getElem_toArray, List.getElem_cons_zero, List.getElem_cons_succ])
      first
      | (refine wpAnyH_take (i := 3) (v := ?_) rfl (by kernel_rfl) (by kernel_rfl) (by kernel_rfl) (fun _ _ _ h => h) (Or.inl ⟨by rfl, ?_⟩) hS ?_; rotate_left; (· (intro y hy; (try dsimp only at hy); go_simp; try with_reducible rfl)); try simp only [Act.put, List.setIfInBounds_toArray, List.set_cons_zero, List.set_cons_succ, List.getElem_toArray, List.getElem_cons_zero, List.getElem_cons_succ])
      | (refine wpAnyH_take (i := 3) (v := undef) rfl (by kernel_rfl) (by kernel_rfl) (by kernel_rfl) (fun _ _ _ h => h) (Or.inr ⟨by rfl, rfl⟩) hS ?_; try simp only [Act.put, List.setIfInBounds_toArray, List.set_cons_zero, List.set_cons_succ, List.getElem_toArray, List.getElem_cons_zero, List.getElem_cons_succ])
      first
      | (refine wpAnyH_take (i := 4) (v := ?_) rfl (by kernel_rfl) (by kernel_rfl) (by kernel_rfl) (fun _ _ _ h => h) (Or.inl ⟨by rfl, ?_⟩) hS ?_; rotate_left; (· (intro y hy; (try dsimp only at hy); go_simp; try with_reducible rfl)); try simp only [Act.put, List.setIfInBounds_toArray, List.set_cons_zero, List.set_cons_succ, List.getElem_toArray, List.getElem_cons_zero, List.getElem_cons_succ])
      | (refine wpAnyH_take (i := 4) (v := undef) rfl (by kernel_rfl) (by kernel_rfl) (by kernel_rfl) (fun _ _ _ h => h) (Or.inr ⟨by rfl, rfl⟩) hS ?_; try simp only [Act.put, List.setIfInBounds_toArray, List.set_cons_zero, List.set_cons_succ, List.getElem_toArray, List.getElem_cons_zero, List.getElem_cons_succ])
      first
      | (refine wpAnyH_take (i := 5) (v := ?_) rfl (by kernel_rfl) (by kernel_rfl) (by kernel_rfl) (fun _ _ _ h => h) (Or.inl ⟨by rfl, ?_⟩) hS ?_; rotate_left; (· (intro y hy; (try dsimp only at hy); go_simp; try with_reducible rfl)); try simp only [Act.put, List.setIfInBounds_toArray, List.set_cons_zero, List.set_cons_succ, List.getElem_toArray, List.getElem_cons_zero, List.getElem_cons_succ])
      | (refine wpAnyH_take (i := 5) (v := undef) rfl (by kernel_rfl) (by kernel_rfl) (by kernel_rfl) (fun _ _ _ h => h) (Or.inr ⟨by rfl, rfl⟩) hS ?_; try simp only [Act.put, List.setIfInBounds_toArray, List.set_cons_zero, List.set_cons_succ, List.getElem_toArray, List.getElem_cons_zero, List.getElem_cons_succ])
      first
      | (refine wpAnyH_take (i := 6) (v := ?_) rfl (by kernel_rfl) (by kernel_rfl) (by kernel_rfl) (fun _ _ _ h => h) (Or.inl ⟨by rfl, ?_⟩) hS ?_; rotate_left; (· (intro y hy; (try dsimp only at hy); go_simp; try with_reducible rfl)); try simp only [Act.put, List.setIfInBounds_toArray, List.set_cons_zero, List.set_cons_succ, List.getElem_toArray, List.getElem_cons_zero, List.getElem_cons_succ])
      | (refine wpAnyH_take (i := 6) (v := undef) rfl (by kernel_rfl) (by kernel_rfl) (by kernel_rfl) (fun _ _ _ h => h) (Or.inr ⟨by rfl, rfl⟩) hS ?_; try simp only [Act.put, List.setIfInBounds_toArray, List.set_cons_zero, List.set_cons_succ, List.getElem_toArray, List.getElem_cons_zero, List.getElem_cons_succ])
      first
      | (refine wpAnyH_take (i := 7) (v := ?_) rfl (by kernel_rfl) (by kernel_rfl) (by kernel_rfl) (fun _ _ _ h => h) (Or.inl ⟨by rfl, ?_⟩) hS ?_; rotate_left; (· (intro y hy; (try dsimp only at hy); go_simp; try with_reducible rfl)); try simp only [Act.put, List.setIfInBounds_toArray, List.set_cons_zero, List.set_cons_succ, List.getElem_toArray, List.getElem_cons_zero, List.getElem_cons_succ])
      | (refine wpAnyH_take (i := 7) (v := undef) rfl (by kernel_rfl) (by kernel_rfl) (by kernel_rfl) (fun _ _ _ h => h) (Or.inr ⟨by rfl, rfl⟩) hS ?_; try simp only [Act.put, List.setIfInBounds_toArray, List.set_cons_zero, List.set_cons_succ, List.getElem_toArray, List.getElem_cons_zero, List.getElem_cons_succ])
      first
      | (refine wpAnyH_take (i := 8) (v := ?_) rfl (by kernel_rfl) (by kernel_rfl) (by kernel_rfl) (fun _ _ _ h => h) (Or.inl ⟨by rfl, ?_⟩) hS ?_; rotate_left; (· (intro y hy; (try dsimp only at hy); go_simp; try with_reducible rfl)); try simp only [Act.put, List.setIfInBounds_toArray, List.set_cons_zero, List.set_cons_succ, List.getElem_toArray, List.getElem_cons_zero, List.getElem_cons_succ])
      | (refine wpAnyH_take (i := 8) (v := undef) rfl (by kernel_rfl) (by kernel_rfl) (by kernel_rfl) (fun _ _ _ h => h) (Or.inr ⟨by rfl, rfl⟩) hS ?_; try simp only [Act.put, List.setIfInBounds_toArray, List.set_cons_zero, List.set_cons_succ, List.getElem_toArray, List.getElem_cons_zero, List.getElem_cons_succ])
      first
      | (refine wpAnyH_take (i := 9) (v := ?_) rfl (by kernel_rfl) (by kernel_rfl) (by kernel_rfl) (fun _ _ _ h => h) (Or.inl ⟨by rfl, ?_⟩) hS ?_; rotate_left; (· (intro y hy; (try dsimp only at hy); go_simp; try with_reducible rfl)); try simp only [Act.put, List.setIfInBounds_toArray, List.set_cons_zero, List.set_cons_succ, List.getElem_toArray, List.getElem_cons_zero, List.getElem_cons_succ])
      | (refine wpAnyH_take (i := 9) (v := undef) rfl (by kernel_rfl) (by kernel_rfl) (by kernel_rfl) (fun _ _ _ h => h) (Or.inr ⟨by rfl, rfl⟩) hS ?_; try simp only [Act.put, List.setIfInBounds_toArray, List.set_cons_zero, List.set_cons_succ, List.getElem_toArray, List.getElem_cons_zero, List.getElem_cons_succ])
      refine wpAnyH_ready (rs := [10, 15]) (by kernel_rfl) (by simp) ?_
      refine AllReadyH.cons (o := _) rfl (fun K hK => ?_) (AllReadyH.cons (o := _) rfl (fun K hK => ?_) AllReadyH.nil)
      · go_simp
        refine (M3 _).mono ?_
        rintro e v ⟨rfl, hb⟩
        have hv := hd.on hb
        have kv := kd.more hb (Nat.le_refl _)
        have hbv := hbd.trans (hb.mono hbd.size)
        refine hK.out _ _ (hv.in1 hu) (fun hS => ?_)
        clear hK K
        try simp only [Act.put, List.setIfInBounds_toArray, List.set_cons_zero, List.set_cons_succ]
        first
        | (refine wpAnyH_take (i := 11) (v := ?_) rfl (by kernel_rfl) (by kernel_rfl) (by kernel_rfl) (fun _ _ _ h => h) (Or.inl ⟨by rfl, ?_⟩) hS ?_; rotate_left; (· (intro y hy; (try dsimp only at hy); go_simp; try with_reducible rfl)); try simp only [Act.put, List.setIfInBounds_toArray, List.set_cons_zero, List.set_cons_succ, List.getElem_toArray, List.getElem_cons_zero, List.getElem_cons_succ])
        | (refine wpAnyH_take (i := 11) (v := undef) rfl (by kernel_rfl) (by kernel_rfl) (by kernel_rfl) (fun _ _ _ h => h) (Or.inr ⟨by rfl, rfl⟩) hS ?_; try simp only [Act.put, List.setIfInBounds_toArray, List.set_cons_zero, List.set_cons_succ, List.getElem_toArray, List.getElem_cons_zero, List.getElem_cons_succ])
        first
        | (refine wpAnyH_take (i := 12) (v := ?_) rfl (by kernel_rfl) (by kernel_rfl) (by kernel_rfl) (fun _ _ _ h => h) (Or.inl ⟨by rfl, ?_⟩) hS ?_; rotate_left; (· (intro y hy; (try dsimp only at hy); go_simp; try with_reducible rfl)); try simp only [Act.put, List.setIfInBounds_toArray, List.set_cons_zero, List.set_cons_succ, List.getElem_toArray, List.getElem_cons_zero, List.getElem_cons_succ])
        | (refine wpAnyH_take (i := 12) (v := undef) rfl (by kernel_rfl) (by kernel_rfl) (by kernel_rfl) (fun _ _ _ h => h) (Or.inr ⟨by rfl, rfl⟩) hS ?_; try simp only [Act.put, List.setIfInBounds_toArray, List.set_cons_zero, List.set_cons_succ, List.getElem_toArray, List.getElem_cons_zero, List.getElem_cons_succ])
        first
        | (refine wpAnyH_take (i := 13) (v := ?_) rfl (by kernel_rfl) (by kernel_rfl) (by kernel_rfl) (fun _ _ _ h => h) (Or.inl ⟨by rfl, ?_⟩) hS ?_; rotate_left; (· (intro y hy; (try dsimp only at hy); go_simp; try with_reducible rfl)); try simp only [Act.put, List.setIfInBounds_toArray, List.set_cons_zero, List.set_cons_succ, List.getElem_toArray, List.getElem_cons_zero, List.getElem_cons_succ])
        | (refine wpAnyH_take (i := 13) (v := undef) rfl (by kernel_rfl) (by kernel_rfl) (by kernel_rfl) (fun _ _ _ h => h) (Or.inr ⟨by rfl, rfl⟩) hS ?_; try simp only [Act.put, List.setIfInBounds_toArray, List.set_cons_zero, List.set_cons_succ, List.getElem_toArray, List.getElem_cons_zero, List.getElem_cons_succ])
        first
        | (refine wpAnyH_take (i := 14) (v := ?_) rfl (by kernel_rfl) (by kernel_rfl) (by kernel_rfl) (fun _ _ _ h => h) (Or.inl ⟨by rfl, ?_⟩) hS ?_; rotate_left; (· (intro y hy; (try dsimp only at hy); go_simp; try with_reducible rfl)); try simp only [Act.put, List.setIfInBounds_toArray, List.set_cons_zero, List.set_cons_succ, List.getElem_toArray, List.getElem_cons_zero, List.getElem_cons_succ])
        | (refine wpAnyH_take (i := 14) (v := undef) rfl (by kernel_rfl) (by kernel_rfl) (by kernel_rfl) (fun _ _ _ h => h) (Or.inr ⟨by rfl, rfl⟩) hS ?_; try simp only [Act.put, List.setIfInBounds_toArray, List.set_cons_zero, List.set_cons_succ, List.getElem_toArray, List.getElem_cons_zero, List.getElem_cons_succ])
        refine wpAnyH_ready (rs := [15]) (by kernel_rfl) (by simp) ?_
        refine AllReadyH.cons (o := _) rfl (fun K hK => ?_) AllReadyH.nil
        go_simp
        have hv2 := hv.on ((Below.refl _ v).alloc (Nat.le_refl _) (.cells #[.int .i64 0, .int .i64 0, .int .i64 0] 47))
        refine hK.out _ _ (hv2.in1 hu) (fun hS => ?_)
        clear hK K
        try simp only [Act.put, List.setIfInBounds_toArray, List.set_cons_zero, List.set_cons_succ]
        refine wpAnyH_ready (rs := [16]) (by kernel_rfl) (by simp) ?_
        refine AllReadyH.cons (o := _) rfl (fun K hK => ?_) AllReadyH.nil
        go_simp
        have hb3 := (Below.refl _ v).alloc (Nat.le_refl _) (.cells #[.int .i64 s.bn, .int .i64 s.z, .int .i64 t2] 47)
        have hv3 := hv.on hb3
        refine hK.out _ _ (hv3.in1 hu) (fun hS => ?_)
        clear hK K
        try simp only [Act.put, List.setIfInBounds_toArray, List.set_cons_zero, List.set_cons_succ]
        first
        | (refine wpAnyH_take (i := 17) (v := ?_) rfl (by kernel_rfl) (by kernel_rfl) (by kernel_rfl) (fun _ _ _ h => h) (Or.inl ⟨by rfl, ?_⟩) hS ?_; rotate_left; (· (intro y hy; (try dsimp only at hy); go_simp; try with_reducible rfl)); try simp only [Act.put, List.setIfInBounds_toArray, List.set_cons_zero, List.set_cons_succ, List.getElem_toArray, List.getElem_cons_zero, List.getElem_cons_succ])
        | (refine wpAnyH_take (i := 17) (v := undef) rfl (by kernel_rfl) (by kernel_rfl) (by kernel_rfl) (fun _ _ _ h => h) (Or.inr ⟨by rfl, rfl⟩) hS ?_; try simp only [Act.put, List.setIfInBounds_toArray, List.set_cons_zero, List.set_cons_succ, List.getElem_toArray, List.getElem_cons_zero, List.getElem_cons_succ])
        first
        | (refine wpAnyH_take (i := 18) (v := ?_) rfl (by kernel_rfl) (by kernel_rfl) (by kernel_rfl) (fun _ _ _ h => h) (Or.inl ⟨by rfl, ?_⟩) hS ?_; rotate_left; (· (intro y hy; (try dsimp only at hy); go_simp; try with_reducible rfl)); try simp only [Act.put, List.setIfInBounds_toArray, List.set_cons_zero, List.set_cons_succ, List.getElem_toArray, List.getElem_cons_zero, List.getElem_cons_succ])
        | (refine wpAnyH_take (i := 18) (v := undef) rfl (by kernel_rfl) (by kernel_rfl) (by kernel_rfl) (fun _ _ _ h => h) (Or.inr ⟨by rfl, rfl⟩) hS ?_; try simp only [Act.put, List.setIfInBounds_toArray, List.set_cons_zero, List.set_cons_succ, List.getElem_toArray, List.getElem_cons_zero, List.getElem_cons_succ])
        refine wpAnyH_done (by kernel_rfl) ?_ _
        refine NoPanic.normal ?_
        go_wp2_with fail
        go_meet
        exact ⟨_, rfl, rfl, BlkIs.new v _ _, kv.more hb3 (Nat.le_refl _), hv3, hbv.trans (hb3.mono hbv.size)⟩
      · go_simp
        have hb1 := (Below.refl _ x.drew).alloc (Nat.le_refl _) (.cells #[.int .i64 0, .int .i64 0, .int .i64 0] 47)
        have h1 := hd.on hb1
        have k1 := kd.more hb1 (Nat.le_refl _)
        have m1 : BlkIs _ x.heap.size _ _ := BlkIs.new x.drew #[.int .i64 0, .int .i64 0, .int .i64 0] 47
        have hb1w := hbd.trans (hb1.mono hbd.size)
        have hxw : w.heap.size ≤ x.heap.size := hbx.size
        have hHx : H < x.heap.size := hx.blk.lt
        have hqx : q < x.heap.size := kq.lt
        refine hK.out _ _ (h1.in1 hu) (fun hS => ?_)
        clear hK K
        try simp only [Act.put, List.setIfInBounds_toArray, List.set_cons_zero, List.set_cons_succ]
        refine wpAnyH_ready (rs := [10]) (by kernel_rfl) (by simp) ?_
        refine AllReadyH.cons (o := _) rfl (fun K hK => ?_) AllReadyH.nil
        go_simp
        refine (M3 _).mono ?_
        rintro e v ⟨rfl, hb⟩
        have hv := h1.on hb
        have kv := k1.more hb (Nat.le_refl _)
        have mv := m1.more hb (Nat.le_refl _)
        have hbv := hb1w.trans (hb.mono hb1w.size)
        have hxv : x.heap.size < v.heap.size := mv.lt
        refine hK.out _ _ (hv.in1 hu) (fun hS => ?_)
        clear hK K
        try simp only [Act.put, List.setIfInBounds_toArray, List.set_cons_zero, List.set_cons_succ]
        first
        | (refine wpAnyH_take (i := 11) (v := ?_) rfl (by kernel_rfl) (by kernel_rfl) (by kernel_rfl) (fun _ _ _ h => h) (Or.inl ⟨by rfl, ?_⟩) hS ?_; rotate_left; (· (intro y hy; (try dsimp only at hy); go_simp; try with_reducible rfl)); try simp only [Act.put, List.setIfInBounds_toArray, List.set_cons_zero, List.set_cons_succ, List.getElem_toArray, List.getElem_cons_zero, List.getElem_cons_succ])
        | (refine wpAnyH_take (i := 11) (v := undef) rfl (by kernel_rfl) (by kernel_rfl) (by kernel_rfl) (fun _ _ _ h => h) (Or.inr ⟨by rfl, rfl⟩) hS ?_; try simp only [Act.put, List.setIfInBounds_toArray, List.set_cons_zero, List.set_cons_succ, List.getElem_toArray, List.getElem_cons_zero, List.getElem_cons_succ])
        first
        | (refine wpAnyH_take (i := 12) (v := ?_) rfl (by kernel_rfl) (by kernel_rfl) (by kernel_rfl) (fun _ _ _ h => h) (Or.inl ⟨by rfl, ?_⟩) hS ?_; rotate_left; (· (intro y hy; (try dsimp only at hy); go_simp; try with_reducible rfl)); try simp only [Act.put, List.setIfInBounds_toArray, List.set_cons_zero, List.set_cons_succ, List.getElem_toArray, List.getElem_cons_zero, List.getElem_cons_succ])
        | (refine wpAnyH_take (i := 12) (v := undef) rfl (by kernel_rfl) (by kernel_rfl) (by kernel_rfl) (fun _ _ _ h => h) (Or.inr ⟨by rfl, rfl⟩) hS ?_; try simp only [Act.put, List.setIfInBounds_toArray, List.set_cons_zero, List.set_cons_succ, List.getElem_toArray, List.getElem_cons_zero, List.getElem_cons_succ])
        first
        | (refine wpAnyH_take (i := 13) (v := ?_) rfl (by kernel_rfl) (by kernel_rfl) (by kernel_rfl) (fun _ _ _ h => h) (Or.inl ⟨by rfl, ?_⟩) hS ?_; rotate_left; (· (intro y hy; (try dsimp only at hy); go_simp; try with_reducible rfl)); try simp only [Act.put, List.setIfInBounds_toArray, List.set_cons_zero, List.set_cons_succ, List.getElem_toArray, List.getElem_cons_zero, List.getElem_cons_succ])
        | (refine wpAnyH_take (i := 13) (v := undef) rfl (by kernel_rfl) (by kernel_rfl) (by kernel_rfl) (fun _ _ _ h => h) (Or.inr ⟨by rfl, rfl⟩) hS ?_; try simp only [Act.put, List.setIfInBounds_toArray, List.set_cons_zero, List.set_cons_succ, List.getElem_toArray, List.getElem_cons_zero, List.getElem_cons_succ])
        first
        | (refine wpAnyH_take (i := 14) (v := ?_) rfl (by kernel_rfl) (by kernel_rfl) (by kernel_rfl) (fun _ _ _ h => h) (Or.inl ⟨by rfl, ?_⟩) hS ?_; rotate_left; (· (intro y hy; (try dsimp only at hy); go_simp; try with_reducible rfl)); try simp only [Act.put, List.setIfInBounds_toArray, List.set_cons_zero, List.set_cons_succ, List.getElem_toArray, List.getElem_cons_zero, List.getElem_cons_succ])
        | (refine wpAnyH_take (i := 14) (v := undef) rfl (by kernel_rfl) (by kernel_rfl) (by kernel_rfl) (fun _ _ _ h => h) (Or.inr ⟨by rfl, rfl⟩) hS ?_; try simp only [Act.put, List.setIfInBounds_toArray, List.set_cons_zero, List.set_cons_succ, List.getElem_toArray, List.getElem_cons_zero, List.getElem_cons_succ])
        obtain ⟨⟨d0, d1, d2⟩, g0, g1, g2⟩ := blk3 mv
        refine wpAnyH_ready (rs := [16]) (by kernel_rfl) (by simp) ?_
        refine AllReadyH.cons (o := _) rfl (fun K hK => ?_) AllReadyH.nil
        go_simp
        have hcs : Chg (· = x.heap.size) v _ := (((Chg.refl (· = x.heap.size) v).setCell (p := ⟨x.heap.size, 0, none⟩) (.inl rfl) (.int .i64 s.bn)).setCell (p := ⟨x.heap.size, 1, none⟩) (.inl rfl) (.int .i64 s.z)).setCell (p := ⟨x.heap.size, 2, none⟩) (.inl rfl) (.int .i64 t2)
        have hv3 := hv.chg hcs fun k hk e => by subst e; have := hx.lt (P := P) (b := b) hk; omega
        have kv3 := kv.chg hcs (by omega)
        have m3 : BlkIs _ x.heap.size #[.int .i64 s.bn, .int .i64 s.z, .int .i64 t2] _ := ((mv.set 0 (.int .i64 s.bn)).set 1 (.int .i64 s.z)).set 2 (.int .i64 t2)
        have hb3 := hbv.trans (hcs.below (n := w.heap.size) (fun k e => by omega) (by omega))
        refine hK.out _ _ (hv3.in1 hu) (fun hS => ?_)
        clear hK K
        try simp only [Act.put, List.setIfInBounds_toArray, List.set_cons_zero, List.set_cons_succ]
        first
        | (refine wpAnyH_take (i := 17) (v := ?_) rfl (by kernel_rfl) (by kernel_rfl) (by kernel_rfl) (fun _ _ _ h => h) (Or.inl ⟨by rfl, ?_⟩) hS ?_; rotate_left; (· (intro y hy; (try dsimp only at hy); go_simp; try with_reducible rfl)); try simp only [Act.put, List.setIfInBounds_toArray, List.set_cons_zero, List.set_cons_succ, List.getElem_toArray, List.getElem_cons_zero, List.getElem_cons_succ])
        | (refine wpAnyH_take (i := 17) (v := undef) rfl (by kernel_rfl) (by kernel_rfl) (by kernel_rfl) (fun _ _ _ h => h) (Or.inr ⟨by rfl, rfl⟩) hS ?_; try simp only [Act.put, List.setIfInBounds_toArray, List.set_cons_zero, List.set_cons_succ, List.getElem_toArray, List.getElem_cons_zero, List.getElem_cons_succ])
        first
        | (refine wpAnyH_take (i := 18) (v := ?_) rfl (by kernel_rfl) (by kernel_rfl) (by kernel_rfl) (fun _ _ _ h => h) (Or.inl ⟨by rfl, ?_⟩) hS ?_; rotate_left; (· (intro y hy; (try dsimp only at hy); go_simp; try with_reducible rfl)); try simp only [Act.put, List.setIfInBounds_toArray, List.set_cons_zero, List.set_cons_succ, List.getElem_toArray, List.getElem_cons_zero, List.getElem_cons_succ])
        | (refine wpAnyH_take (i := 18) (v := undef) rfl (by kernel_rfl) (by kernel_rfl) (by kernel_rfl) (fun _ _ _ h => h) (Or.inr ⟨by rfl, rfl⟩) hS ?_; try simp only [Act.put, List.setIfInBounds_toArray, List.set_cons_zero, List.set_cons_succ, List.getElem_toArray, List.getElem_cons_zero, List.getElem_cons_succ])
        refine wpAnyH_done (by kernel_rfl) ?_ _
        refine NoPanic.normal ?_
        go_wp2_with fail
        go_meet
        exact ⟨_, rfl, rfl, m3, kv3, hv3, hb3⟩
  case rest =>
    obtain ⟨m8, rfl, rfl, hm, hqq, hhr, hbr⟩ := hcut
    clear hx hbx kq M3
    have cse : wc.cell? ⟨H, 13, none⟩ = some (.int .i64 s.se) := hhr.blk.cell 13
    have fse := hhr.blk.free 13
    go_upto_region 8 with fail
    have hcs := (Chg.refl (· = H) wc).setCell (p := ⟨H, 13, none⟩) (.inl rfl) (.int .i64 (se1 : Int))
    have h5 : HeapIn (wc.setCell ⟨H, 13, none⟩ (.int .i64 (se1 : Int))) H P b v0 v1 v2 v3 { s with se := se1 } := hhr.cells hcs rfl (four rfl rfl rfl rfl) (hhr.blk.set 13 _)
    have k5 := hqq.chg hcs (ne_of_types hqq hhr.blk (by decide))
    have m5 := hm.chg hcs (ne_of_types hm hhr.blk (by decide))
    have hc5 : Chg (fun k => k = H ∨ k = b) w (wc.setCell ⟨H, 13, none⟩ (.int .i64 (se1 : Int))) := (Chg.of_below hbr (Nat.le_refl _)).trans (hcs.mono fun k e => .inl e)
    clear hcs cse fse hm hqq hbr
    go_upto_region 8 with fail
    generalize wc.setCell ⟨H, 13, none⟩ (.int .i64 (se1 : Int)) = x at *
    have hd : HeapIn x.drew H P b v0 v1 v2 v3 { s with se := se1 } := h5.on (Below.refl _ x).drew
    have kd : BlkIs x.drew q _ _ := k5
    have md : BlkIs x.drew m8 _ _ := m5
    have hcd := hc5.drew
    clear h5 k5 m5 hc5 hhr
    refine wp_region_noPanic ?_
    refine wp_region_held_drew (S := fun y => (y.cell? ⟨H, 0, none⟩ = some (.pointer (some ⟨P, 0, none⟩)) ∧ y.cell? ⟨H, 13, none⟩ = some (.int .i64 (se1 : Int))) ∧ (y.cell? ⟨q, 0, none⟩ = some (.int .i64 p) ∧ y.cell? ⟨q, 1, none⟩ = some (.int .i64 d) ∧ y.cell? ⟨q, 2, none⟩ = some (.bool wk) ∧ y.cell? ⟨q, 3, none⟩ = some (.bool fn))) (by kernel_rfl) ⟨⟨hd.blk.cell 0, hd.blk.cell 13⟩, kd.cell 0, kd.cell 1, kd.cell 2, kd.cell 3⟩ (fun hS => ?_)
    first
    | (refine wpAnyH_take (i := 0) (v := ?_) rfl (by kernel_rfl) (by kernel_rfl) (by kernel_rfl) (fun _ _ _ h => h) (Or.inl ⟨by rfl, ?_⟩) hS ?_; rotate_left; (· (intro y hy; (try dsimp only at hy); go_simp; try with_reducible rfl)); try simp only [Act.put, List.setIfInBounds_toArray, List.set_cons_zero, List.set_cons_succ, List.getElem_toArray, List.getElem_cons_zero, List.getElem_cons_succ])
    | (refine wpAnyH_take (i := 0) (v := undef) rfl (by kernel_rfl) (by kernel_rfl) (by kernel_rfl) (fun _ _ _ h => h) (Or.inr ⟨by rfl, rfl⟩) hS ?_; try simp only [Act.put, List.setIfInBounds_toArray, List.set_cons_zero, List.set_cons_succ, List.getElem_toArray, List.getElem_cons_zero, List.getElem_cons_succ])
    first
    | (refine wpAnyH_take (i := 1) (v := ?_) rfl (by kernel_rfl) (by kernel_rfl) (by kernel_rfl) (fun _ _ _ h => h) (Or.inl ⟨by rfl, ?_⟩) hS ?_; rotate_left; (· (intro y hy; (try dsimp only at hy); go_simp; try with_reducible rfl)); try simp only [Act.put, List.setIfInBounds_toArray, List.set_cons_zero, List.set_cons_succ, List.getElem_toArray, List.getElem_cons_zero, List.getElem_cons_succ])
    | (refine wpAnyH_take (i := 1) (v := undef) rfl (by kernel_rfl) (by kernel_rfl) (by kernel_rfl) (fun _ _ _ h => h) (Or.inr ⟨by rfl, rfl⟩) hS ?_; try simp only [Act.put, List.setIfInBounds_toArray, List.set_cons_zero, List.set_cons_succ, List.getElem_toArray, List.getElem_cons_zero, List.getElem_cons_succ])
    first
    | (refine wpAnyH_take (i := 2) (v := ?_) rfl (by kernel_rfl) (by kernel_rfl) (by kernel_rfl) (fun _ _ _ h => h) (Or.inl ⟨by rfl, ?_⟩) hS ?_; rotate_left; (· (intro y hy; (try dsimp only at hy); go_simp; try with_reducible rfl)); try simp only [Act.put, List.setIfInBounds_toArray, List.set_cons_zero, List.set_cons_succ, List.getElem_toArray, List.getElem_cons_zero, List.getElem_cons_succ])
    | (refine wpAnyH_take (i := 2) (v := undef) rfl (by kernel_rfl) (by kernel_rfl) (by kernel_rfl) (fun _ _ _ h => h) (Or.inr ⟨by rfl, rfl⟩) hS ?_; try simp only [Act.put, List.setIfInBounds_toArray, List.set_cons_zero, List.set_cons_succ, List.getElem_toArray, List.getElem_cons_zero, List.getElem_cons_succ])
    first
    | (refine wpAnyH_take (i := 3) (v := ?_) rfl (by kernel_rfl) (by kernel_rfl) (by kernel_rfl) (fun _ _ _ h => h) (Or.inl ⟨by rfl, ?_⟩) hS ?_; rotate_left; (· (intro y hy; (try dsimp only at hy); go_simp; try with_reducible rfl)); try simp only [Act.put, List.setIfInBounds_toArray, List.set_cons_zero, List.set_cons_succ, List.getElem_toArray, List.getElem_cons_zero, List.getElem_cons_succ])
    | (refine wpAnyH_take (i := 3) (v := undef) rfl (by kernel_rfl) (by kernel_rfl) (by kernel_rfl) (fun _ _ _ h => h) (Or.inr ⟨by rfl, rfl⟩) hS ?_; try simp only [Act.put, List.setIfInBounds_toArray, List.set_cons_zero, List.set_cons_succ, List.getElem_toArray, List.getElem_cons_zero, List.getElem_cons_succ])
    first
    | (refine wpAnyH_take (i := 4) (v := ?_) rfl (by kernel_rfl) (by kernel_rfl) (by kernel_rfl) (fun _ _ _ h => h) (Or.inl ⟨by rfl, ?_⟩) hS ?_; rotate_left; (· (intro y hy; (try dsimp only at hy); go_simp; try with_reducible rfl)); try simp only [Act.put, List.setIfInBounds_toArray, List.set_cons_zero, List.set_cons_succ, List.getElem_toArray, List.getElem_cons_zero, List.getElem_cons_succ])
    | (refine wpAnyH_take (i := 4) (v := undef) rfl (by kernel_rfl) (by kernel_rfl) (by kernel_rfl) (fun _ _ _ h => h) (Or.inr ⟨by rfl, rfl⟩) hS ?_; try simp only [Act.put, List.setIfInBounds_toArray, List.set_cons_zero, List.set_cons_succ, List.getElem_toArray, List.getElem_cons_zero, List.getElem_cons_succ])
    first
    | (refine wpAnyH_take (i := 5) (v := ?_) rfl (by kernel_rfl) (by kernel_rfl) (by kernel_rfl) (fun _ _ _ h => h) (Or.inl ⟨by rfl, ?_⟩) hS ?_; rotate_left; (· (intro y hy; (try dsimp only at hy); go_simp; try with_reducible rfl)); try simp only [Act.put, List.setIfInBounds_toArray, List.set_cons_zero, List.set_cons_succ, List.getElem_toArray, List.getElem_cons_zero, List.getElem_cons_succ])
    | (refine wpAnyH_take (i := 5) (v := undef) rfl (by kernel_rfl) (by kernel_rfl) (by kernel_rfl) (fun _ _ _ h => h) (Or.inr ⟨by rfl, rfl⟩) hS ?_; try simp only [Act.put, List.setIfInBounds_toArray, List.set_cons_zero, List.set_cons_succ, List.getElem_toArray, List.getElem_cons_zero, List.getElem_cons_succ])
    first
    | (refine wpAnyH_take (i := 6) (v := ?_) rfl (by kernel_rfl) (by kernel_rfl) (by kernel_rfl) (fun _ _ _ h => h) (Or.inl ⟨by rfl, ?_⟩) hS ?_; rotate_left; (· (intro y hy; (try dsimp only at hy); go_simp; try with_reducible rfl)); try simp only [Act.put, List.setIfInBounds_toArray, List.set_cons_zero, List.set_cons_succ, List.getElem_toArray, List.getElem_cons_zero, List.getElem_cons_succ])
    | (refine wpAnyH_take (i := 6) (v := undef) rfl (by kernel_rfl) (by kernel_rfl) (by kernel_rfl) (fun _ _ _ h => h) (Or.inr ⟨by rfl, rfl⟩) hS ?_; try simp only [Act.put, List.setIfInBounds_toArray, List.set_cons_zero, List.set_cons_succ, List.getElem_toArray, List.getElem_cons_zero, List.getElem_cons_succ])
    first
    | (refine wpAnyH_take (i := 7) (v := ?_) rfl (by kernel_rfl) (by kernel_rfl) (by kernel_rfl) (fun _ _ _ h => h) (Or.inl ⟨by rfl, ?_⟩) hS ?_; rotate_left; (· (intro y hy; (try dsimp only at hy); go_simp; try with_reducible rfl)); try simp only [Act.put, List.setIfInBounds_toArray, List.set_cons_zero, List.set_cons_succ, List.getElem_toArray, List.getElem_cons_zero, List.getElem_cons_succ])
    | (refine wpAnyH_take (i := 7) (v := undef) rfl (by kernel_rfl) (by kernel_rfl) (by kernel_rfl) (fun _ _ _ h => h) (Or.inr ⟨by rfl, rfl⟩) hS ?_; try simp only [Act.put, List.setIfInBounds_toArray, List.set_cons_zero, List.set_cons_succ, List.getElem_toArray, List.getElem_cons_zero, List.getElem_cons_succ])
    first
    | (refine wpAnyH_take (i := 8) (v := ?_) rfl (by kernel_rfl) (by kernel_rfl) (by kernel_rfl) (fun _ _ _ h => h) (Or.inl ⟨by rfl, ?_⟩) hS ?_; rotate_left; (· (intro y hy; (try dsimp only at hy); go_simp; try with_reducible rfl)); try simp only [Act.put, List.setIfInBounds_toArray, List.set_cons_zero, List.set_cons_succ, List.getElem_toArray, List.getElem_cons_zero, List.getElem_cons_succ])
    | (refine wpAnyH_take (i := 8) (v := undef) rfl (by kernel_rfl) (by kernel_rfl) (by kernel_rfl) (fun _ _ _ h => h) (Or.inr ⟨by rfl, rfl⟩) hS ?_; try simp only [Act.put, List.setIfInBounds_toArray, List.set_cons_zero, List.set_cons_succ, List.getElem_toArray, List.getElem_cons_zero, List.getElem_cons_succ])
    first
    | (refine wpAnyH_take (i := 9) (v := ?_) rfl (by kernel_rfl) (by kernel_rfl) (by kernel_rfl) (fun _ _ _ h => h) (Or.inl ⟨by rfl, ?_⟩) hS ?_; rotate_left; (· (intro y hy; (try dsimp only at hy); go_simp; try with_reducible rfl)); try simp only [Act.put, List.setIfInBounds_toArray, List.set_cons_zero, List.set_cons_succ, List.getElem_toArray, List.getElem_cons_zero, List.getElem_cons_succ])
    | (refine wpAnyH_take (i := 9) (v := undef) rfl (by kernel_rfl) (by kernel_rfl) (by kernel_rfl) (fun _ _ _ h => h) (Or.inr ⟨by rfl, rfl⟩) hS ?_; try simp only [Act.put, List.setIfInBounds_toArray, List.set_cons_zero, List.set_cons_succ, List.getElem_toArray, List.getElem_cons_zero, List.getElem_cons_succ])
    refine wpAnyH_ready (rs := [10]) (by kernel_rfl) (by simp) ?_
    refine AllReadyH.cons (o := _) rfl (fun K hK => ?_) AllReadyH.nil
    go_simp
    refine (M4 _ hd.ar).mono ?_
    rintro e y ⟨rfl, hA, hc⟩
    have hy := hd.put hA hc
    have ky := kd.chg hc (ne_of_types kd hd.ar.row (by decide))
    have my := md.chg hc (ne_of_types md hd.ar.row (by decide))
    have hcy := hcd.trans (hc.mono fun k e => .inr e)
    refine hK.out _ _ (⟨⟨hy.blk.cell 0, hy.blk.cell 13⟩, ky.cell 0, ky.cell 1, ky.cell 2, ky.cell 3⟩) (fun hS => ?_)
    clear hK K
    try simp only [Act.put, List.setIfInBounds_toArray, List.set_cons_zero, List.set_cons_succ]
    refine wpAnyH_done (by kernel_rfl) ?_ _
    refine NoPanic.normal ?_
    clear hS hd kd md hcd hA hc M4
    obtain ⟨⟨d0, d1, d2⟩, -⟩ := blk3 my
    have ML := laid_any (K := Foot H P b v0 v1 v2 v3) hy (fun k h => h) g.u01 t2 s.tn g.ln
    have hnq := hy.not_foot ky (by decide) (by decide) (by decide) (by decide)
    go_wp2_with fail
    refine ML.mono ?_
    rintro e z ⟨rfl, K1, ⟨P1, b1, x0, x1, x2, x3, hz, hF1⟩, hK1, hcz⟩
    have kz := ky.chg hcz hnq
    have hfoot : ∀ k, K1 k → K k ∨ w.heap.size ≤ k := fun k hk => (hK1 k hk).imp (hF k) fun e => Nat.le_trans hcy.size e
    have hcw : Chg K w z := (hcy.mono fun k e => e.elim (fun e => hF k (.inl e)) fun e => hF k (.inr (.inr (.inl e)))).trans (hcz.mono hF)
    clear ML ky my hy hcy hcz hK1 d0 d1 d2 hnq
    obtain ⟨⟨e0, e1, e2, e3⟩, -⟩ := BlkIs.facts4 kz
    cases wk <;> cases fn
    · have es : s' = { s with l := madeL s.l s.tn p d false false se1, se := se1, tn := t2, pn := s.pn ++ [s.tn] } := by rw [← Hs.out, ← Ht.out, ← Hr.out, ← Hse.out]; rfl
      go_wp2
      go_ret2
      exact ⟨rfl, K1, es ▸ ⟨P1, b1, x0, x1, x2, x3, hz, hF1⟩, hfoot, hcw⟩
    · have es : s' = { s with l := madeL s.l s.tn p d false true se1, se := se1, tn := t2, pn := s.pn ++ [s.tn], fi := s.fi ++ [s.tn] } := by rw [← Hs.out, ← Ht.out, ← Hr.out, ← Hse.out]; rfl
      have ce : z.cell? ⟨H, 15, none⟩ = some x3 := hz.blk.cell 15
      have hzl := hz.blk.lt
      have hka := hz.blk.alloc (.cells #[.int .i64 s.tn] 3)
      have hcell := (BlkIs.new z #[.int .i64 s.tn] 3).cell 0
      have r2 : RowIs (z.alloc (.cells #[.int .i64 s.tn] 3)) x3 s.fi := hz.r3.chg ((Chg.refl (fun _ => False) z).alloc _) (fun _ _ h => h)
      have hne := hz.r3.ne hz.blk (by decide)
      have hca := (Chg.refl (fun k => k = H ∨ some k = x3.ownBlock) z).alloc (.cells #[.int .i64 s.tn] 3)
      go_wp2_with (at_builtin; refine wpList_push rfl _ _ rfl x3 s.fi rfl r2 (by omega) z.heap.size s.tn rfl hcell ?_; intro v' w' r3 hgr hat hsl; obtain ⟨av, c, rfl⟩ := hsl; have hk2 := hka.chg (Chg.of_grown (S := fun k => some k = x3.ownBlock) hgr fun _ e => e) (fun e => hne e.symm); have f14 := hk2.free 15; have g14 := hk2.cell 15)
      go_ret2
      refine ⟨rfl, es ▸ went_join hfoot hcw (went_row hz hF1 3 (by omega) rfl (u0 := x0) (u1 := x1) (u2 := x2) (u3 := .slice av (s.fi.length + 1) c) (four (fun _ => rfl) (fun _ => rfl) (fun _ => rfl) (fun h => absurd rfl h)) (four (fun _ => rfl) (fun _ => rfl) (fun _ => rfl) (fun h => absurd rfl h)) (hk2.set 15 _) ?_ ?_ ?_)⟩
      · exact (hca.step (T := fun k => some k = x3.ownBlock) (Chg.of_grown hgr fun _ e => e) fun k e => .inl (.inr e)).setCell (p := ⟨H, 15, none⟩) (.inl (.inl rfl)) _
      · exact r3.chg (S := (· = H)) ((Chg.refl (· = H) w').setCell (p := ⟨H, 15, none⟩) (.inl rfl) _) fun g e e' => by subst e'; exact r3.ne hk2 (by decide) e
      · exact hat.imp id fun e => ⟨_, e, by simp⟩
    · have es : s' = { s with l := madeL s.l s.tn p d true false se1, se := se1, tn := t2, pn := s.pn ++ [s.tn], wk := s.wk ++ [s.tn] } := by rw [← Hs.out, ← Ht.out, ← Hr.out, ← Hse.out]; rfl
      have ce : z.cell? ⟨H, 14, none⟩ = some x2 := hz.blk.cell 14
      have hzl := hz.blk.lt
      have hka := hz.blk.alloc (.cells #[.int .i64 s.tn] 3)
      have hcell := (BlkIs.new z #[.int .i64 s.tn] 3).cell 0
      have r2 : RowIs (z.alloc (.cells #[.int .i64 s.tn] 3)) x2 s.wk := hz.r2.chg ((Chg.refl (fun _ => False) z).alloc _) (fun _ _ h => h)
      have hne := hz.r2.ne hz.blk (by decide)
      have hneq := hz.r2.ne kz (by decide)
      have hqH : ¬ q = H := ne_of_types kz hz.blk (by decide)
      have hHq : ¬ H = q := fun e => hqH e.symm
      have hca := (Chg.refl (fun k => k = H ∨ some k = x2.ownBlock) z).alloc (.cells #[.int .i64 s.tn] 3)
      go_wp2_with (at_builtin; refine wpList_push rfl _ _ rfl x2 s.wk rfl r2 (by omega) z.heap.size s.tn rfl hcell ?_; intro v' w' r3 hgr hat hsl; obtain ⟨av, c, rfl⟩ := hsl; have hk2 := hka.chg (Chg.of_grown (S := fun k => some k = x2.ownBlock) hgr fun _ e => e) (fun e => hne e.symm); have f14 := hk2.free 14; have g14 := hk2.cell 14; have kq3 := (kz.alloc (.cells #[.int .i64 s.tn] 3)).chg (Chg.of_grown (S := fun k => some k = x2.ownBlock) hgr fun _ e => e) (fun e => hneq e.symm); have e3' : w'.cell? ⟨q, 3, none⟩ = some (.bool false) := kq3.cell 3; have e4' : (w'.setCell ⟨H, 14, none⟩ (.slice av (s.wk.length + 1) c)).cell? ⟨q, 3, none⟩ = some (.bool false) := (kq3.far (p := ⟨H, 14, none⟩) hqH _).cell 3)
      go_ret2
      refine ⟨rfl, es ▸ went_join hfoot hcw (went_row hz hF1 2 (by omega) rfl (u0 := x0) (u1 := x1) (u2 := .slice av (s.wk.length + 1) c) (u3 := x3) (four (fun _ => rfl) (fun _ => rfl) (fun h => absurd rfl h) (fun _ => rfl)) (four (fun _ => rfl) (fun _ => rfl) (fun h => absurd rfl h) (fun _ => rfl)) (hk2.set 14 _) ?_ ?_ ?_)⟩
      · exact (hca.step (T := fun k => some k = x2.ownBlock) (Chg.of_grown hgr fun _ e => e) fun k e => .inl (.inr e)).setCell (p := ⟨H, 14, none⟩) (.inl (.inl rfl)) _
      · exact r3.chg (S := (· = H)) ((Chg.refl (· = H) w').setCell (p := ⟨H, 14, none⟩) (.inl rfl) _) fun g e e' => by subst e'; exact r3.ne hk2 (by decide) e
      · exact hat.imp id fun e => ⟨_, e, by simp⟩
    · exact absurd o1 (by simp [shB])
end

end Go.Proofs.Ytoohnnkhklifdaa

namespace Go.Proofs.Ytoohnnkhklifdaa
open Go.ChangeShapes Go.WideShapes Go.ChangeAt Go.RowKit

set_option linter.unusedSimpArgs false
set_option linter.unusedVariables false

section
variable {w : World} {H P b : Nat} {v0 v1 v2 v3 : Value} {s : Hp} {K : Nat → Prop}
theorem scanH_still (h : HeapAt w K H s) (hm : s.mv = false) :
    Calls Try.prog 13 #[.pointer (some ⟨H, 0, none⟩)] w fun e w' => e = .returned (.bool false) ∧ Below w.heap.size w w' := by
  obtain ⟨P, b, v0, v1, v2, v3, h, hF⟩ := h
  have c10 : w.cell? ⟨H, 10, none⟩ = some (.bool false) := by rw [← hm]; exact h.blk.cell 10
  clear h hF
  go_enter Try.func13, Try.ntmps13
  go_wp2
  go_ret
  exact ⟨rfl, Below.refl _ _⟩
theorem scanH_end (h : HeapAt w K H s) (g : Sound s) (hm : s.mv = true) (he : s.sc = s.tn) :
    Calls Try.prog 13 #[.pointer (some ⟨H, 0, none⟩)] w fun e w' => e = .returned (.bool false) ∧ Below w.heap.size w w' := by
  obtain ⟨P, b, v0, v1, v2, v3, h, hF⟩ := h
  have c10 : w.cell? ⟨H, 10, none⟩ = some (.bool true) := by rw [← hm]; exact h.blk.cell 10
  have M := scanned_any h g
  rw [decide_eq_true he] at M
  clear h hF g
  go_enter Try.func13, Try.ntmps13
  go_wp2_with fail
  refine M.mono ?_
  rintro e x ⟨rfl, hb⟩
  go_wp2
  go_ret
  exact ⟨rfl, hb⟩

theorem Went.mono {K0 : Nat → Prop} {x : World} (h : Went w K0 H s x) (hK : ∀ k, K0 k → K k) : Went w K H s x := by
  obtain ⟨K1, h1, h2, h3⟩ := h
  exact ⟨K1, h1, fun k hk => (h2 k hk).imp (hK k) id, h3.mono hK⟩
/-- One of a row's numbers is set. -/
theorem own_set {base n k : Nat} {v : Value} {xs : List Int} (h : w.ownsRow base 3 1 v n (xs.map (Value.int .i64))) (hk : k < n) (q : Int) :
    ∃ g cap, v = .slice (some ⟨g, 0, none⟩) n cap ∧ base ≤ g ∧ g < w.heap.size ∧ w.frozen? ⟨g, k, none⟩ = false ∧ w.cell? ⟨g, k, none⟩ = some (.int .i64 (xs.getD k 0)) ∧ (w.setCell ⟨g, k, none⟩ (.int .i64 q)).ownsRow base 3 1 v n ((xs.set k q).map (Value.int .i64)) := by
  have hl : xs.length = n := by simpa using h.1
  obtain ⟨g', cap', e', _, hg', _, _, _, hcell⟩ := own_cell h (by omega)
  rcases h.2 with ⟨rfl, h0⟩ | ⟨g, cap, cur, rfl, hb, hh, hnc, hcm, hcs, htk⟩
  · omega
  · have hB : BlkIs w g cur 3 := hh
    simp at e'
    refine ⟨g, cap, rfl, hb, hB.lt, hB.free k, by rw [e'.1]; exact hcell k hk, by simp [hl], .inr ⟨g, cap, cur.setIfInBounds k (.int .i64 q), rfl, hb, hB.set k _, hnc, hcm, by simpa using hcs, ?_⟩⟩
    rw [Array.toList_setIfInBounds, List.take_set, htk, List.map_set]

theorem own_base {b0 b1 n : Nat} {e : TypeId} {v : Value} {xs : List Value} (h : w.ownsRow b1 e 1 v n xs) (hb : b0 ≤ b1) : w.ownsRow b0 e 1 v n xs :=
  ⟨h.1, h.2.imp id fun ⟨g, cap, cur, e, h1, r⟩ => ⟨g, cap, cur, e, by omega, r⟩⟩
theorem own_keep {x : World} {S : Nat → Prop} {base n : Nat} {e : TypeId} {v : Value} {xs : List Value} (h : w.ownsRow base e 1 v n xs) (hc : Chg S w x) (hs : ∀ g, v.ownBlock = some g → ¬ S g) : x.ownsRow base e 1 v n xs := by
  refine ⟨h.1, h.2.imp id ?_⟩
  rintro ⟨g, cap, cur, rfl, hb, hh, r⟩
  exact ⟨g, cap, cur, rfl, hb, (hc.block g (Array.getElem?_eq_some_iff.1 hh).1 (hs g rfl)).trans hh, r⟩
theorem take_next {ps : List Nat} {k : Nat} (h : k < ps.length) : ps.take (k + 1) = ps.take k ++ [ps.getD k 0] := by
  rw [List.take_succ_eq_append_getElem h]
  simp [List.getD, h]
/-- The list of a round of 'for i, p := range l { l[i] = h.Moved(p) }'. -/
theorem movVL_set (s : Hp) {ps : List Nat} {k : Nat} (h : k < ps.length) (q : Nat) (hq : q = (s.movedL (ps.take k)).movV (ps.getD k 0)) :
    (nums (s.movVL (ps.take k) ++ ps.drop k)).set k (q : Int) = nums (s.movVL (ps.take (k + 1)) ++ ps.drop (k + 1)) ∧ (nums (s.movVL (ps.take k) ++ ps.drop k)).getD k 0 = ((ps.getD k 0 : Nat) : Int) := by
  have hl : (s.movVL (ps.take k)).length = k := by rw [movVL_length, List.length_take]; omega
  constructor
  · rw [take_next h, movVL_snoc, ← hq]
    unfold nums
    rw [← List.map_set]
    congr 1
    rw [List.set_append_right _ _ (by omega), hl, Nat.sub_self, List.append_assoc]
    congr 1
    rw [List.drop_eq_getElem_cons h]
    rfl
  · rw [nums_getD (by rw [List.length_append, hl, List.length_drop]; omega)]
    congr 1
    rw [List.getD_eq_getElem?_getD, List.getElem?_append_right (by omega), hl, Nat.sub_self, List.getElem?_drop, Nat.add_zero, List.getD_eq_getElem?_getD]

set_option maxRecDepth 100000 in
set_option maxHeartbeats 4000000 in
theorem scanH_yes (hw : HeapAt w K H s) (g : Ok s) (hm : s.mv = true) (hin : s.sc ∈ s.pn) :
    Calls Try.prog 13 #[.pointer (some ⟨H, 0, none⟩)] w fun e w' => e = .returned (.bool true) ∧ Went w K H s.scan w' := by
  have hK0 : ∀ k, (fun k => K k ∧ k < w.heap.size) k → K k := fun k h => h.1
  replace hw := hw.tight
  refine Calls.mono (R := fun e w' => e = .returned (.bool true) ∧ Went w (fun k => K k ∧ k < w.heap.size) H s.scan w') ?_ fun e w' ⟨h1, h2⟩ => ⟨h1, h2.mono hK0⟩
  have hKw : ∀ k, (fun k => K k ∧ k < w.heap.size) k → k < w.heap.size := fun k h => h.2
  generalize (fun k => K k ∧ k < w.heap.size) = K0 at *
  clear hK0
  obtain ⟨P, b, v0, v1, v2, v3, h, hF⟩ := hw
  have c10 : w.cell? ⟨H, 10, none⟩ = some (.bool true) := by rw [← hm]; exact h.blk.cell 10
  have M1 := scanned_any h g.sound
  have hne : s.sc ≠ s.tn := by have := (g.pn_lt hin).2.1; omega
  rw [decide_eq_false hne] at M1
  have ob := (g.inn _ hin).2.1
  have hnA := ob.nA_le
  have hps := g.stP_in (x := s.sc) (.inl hin)
  have hnm := g.stP_nums (x := s.sc) (.inl hin)
  have M2 := fun x (hx : ArenaAt 76 x P b s.l) => strong_at s.sc x hx ob.of fun i hi => by
    rcases g.ptr _ (.inl hin) i hi with e | ⟨y, e, hy⟩
    · rw [e]; omega
    · rw [e]
      have := hy.elim (fun e => (g.pn_lt e).2.2) fun e => (g.pk_lt e).2
      have := g.len; have := g.z1
      omega
  obtain ⟨n, hn⟩ : ∃ n, nSt s.l s.sc = n := ⟨_, rfl⟩
  have hns : (if hw (hdW s.l s.sc) then 0 else hp (hdW s.l s.sc)) = n := hn
  rw [hn] at hnm
  rw [hns] at M2
  obtain ⟨ps, hpse⟩ : ∃ ps, stP s.l s.sc = ps := ⟨_, rfl⟩
  have hpl : ps.length = n := by rw [← hpse, stP_length, hn]
  have Hsc : Hid (s.scan = { s.movedL ps with l := setP (s.movedL ps).l s.sc (s.movVL ps), sc := s.sc + szA s.l s.sc }) := Lib.hid (by rw [← hpse]; rfl)
  rw [hpse] at hps hnm
  rw [← hnm] at M2
  obtain ⟨s', hs'⟩ : ∃ s', s.scan = s' := ⟨_, rfl⟩
  rw [hs'] at Hsc ⊢
  clear hs' hn hpse hnm
  have hn8 : n ≤ 8 := by rw [← hns]; split <;> omega
  have Hns := Lib.hid hns
  clear hns
  go_enter Try.func13, Try.ntmps13
  go_wp2_with fail
  refine M1.mono ?_
  rintro e x ⟨rfl, hb⟩
  have hx := h.on hb
  have hcx := Chg.of_below (S := K0) hb (Nat.le_refl _)
  have hcx0 : w.heap.size ≤ x.drew.heap.size := hb.size
  clear h c10 M1
  go_upto_region 3 with fail
  have hd : HeapIn x.drew H P b v0 v1 v2 v3 s := hx.on (Below.refl _ x).drew
  have hcd := hcx.drew
  clear hx hcx hb
  refine wp_region_noPanic ?_
  refine wp_region_held_drew (S := fun y => y.cell? ⟨H, 0, none⟩ = some (.pointer (some ⟨P, 0, none⟩)) ∧ y.cell? ⟨H, 12, none⟩ = some (.int .i64 s.sc)) (by kernel_rfl) ⟨hd.blk.cell 0, hd.blk.cell 12⟩ (fun hS => ?_)
  first
  | (refine wpAnyH_take (i := 0) (v := ?_) rfl (by kernel_rfl) (by kernel_rfl) (by kernel_rfl) (fun _ _ _ h => h) (Or.inl ⟨by rfl, ?_⟩) hS ?_; rotate_left; (· (intro y hy; (try dsimp only at hy); go_simp; try with_reducible rfl)); try simp only [Act.put, List.setIfInBounds_toArray, List.set_cons_zero, List.set_cons_succ, List.getElem_toArray, List.getElem_cons_zero, List.getElem_cons_succ])
  | (refine wpAnyH_take (i := 0) (v := undef) rfl (by kernel_rfl) (by kernel_rfl) (by kernel_rfl) (fun _ _ _ h => h) (Or.inr ⟨by rfl, rfl⟩) hS ?_; try simp only [Act.put, List.setIfInBounds_toArray, List.set_cons_zero, List.set_cons_succ, List.getElem_toArray, List.getElem_cons_zero, List.getElem_cons_succ])
  first
  | (refine wpAnyH_take (i := 1) (v := ?_) rfl (by kernel_rfl) (by kernel_rfl) (by kernel_rfl) (fun _ _ _ h => h) (Or.inl ⟨by rfl, ?_⟩) hS ?_; rotate_left; (· (intro y hy; (try dsimp only at hy); go_simp; try with_reducible rfl)); try simp only [Act.put, List.setIfInBounds_toArray, List.set_cons_zero, List.set_cons_succ, List.getElem_toArray, List.getElem_cons_zero, List.getElem_cons_succ])
  | (refine wpAnyH_take (i := 1) (v := undef) rfl (by kernel_rfl) (by kernel_rfl) (by kernel_rfl) (fun _ _ _ h => h) (Or.inr ⟨by rfl, rfl⟩) hS ?_; try simp only [Act.put, List.setIfInBounds_toArray, List.set_cons_zero, List.set_cons_succ, List.getElem_toArray, List.getElem_cons_zero, List.getElem_cons_succ])
  first
  | (refine wpAnyH_take (i := 2) (v := ?_) rfl (by kernel_rfl) (by kernel_rfl) (by kernel_rfl) (fun _ _ _ h => h) (Or.inl ⟨by rfl, ?_⟩) hS ?_; rotate_left; (· (intro y hy; (try dsimp only at hy); go_simp; try with_reducible rfl)); try simp only [Act.put, List.setIfInBounds_toArray, List.set_cons_zero, List.set_cons_succ, List.getElem_toArray, List.getElem_cons_zero, List.getElem_cons_succ])
  | (refine wpAnyH_take (i := 2) (v := undef) rfl (by kernel_rfl) (by kernel_rfl) (by kernel_rfl) (fun _ _ _ h => h) (Or.inr ⟨by rfl, rfl⟩) hS ?_; try simp only [Act.put, List.setIfInBounds_toArray, List.set_cons_zero, List.set_cons_succ, List.getElem_toArray, List.getElem_cons_zero, List.getElem_cons_succ])
  first
  | (refine wpAnyH_take (i := 3) (v := ?_) rfl (by kernel_rfl) (by kernel_rfl) (by kernel_rfl) (fun _ _ _ h => h) (Or.inl ⟨by rfl, ?_⟩) hS ?_; rotate_left; (· (intro y hy; (try dsimp only at hy); go_simp; try with_reducible rfl)); try simp only [Act.put, List.setIfInBounds_toArray, List.set_cons_zero, List.set_cons_succ, List.getElem_toArray, List.getElem_cons_zero, List.getElem_cons_succ])
  | (refine wpAnyH_take (i := 3) (v := undef) rfl (by kernel_rfl) (by kernel_rfl) (by kernel_rfl) (fun _ _ _ h => h) (Or.inr ⟨by rfl, rfl⟩) hS ?_; try simp only [Act.put, List.setIfInBounds_toArray, List.set_cons_zero, List.set_cons_succ, List.getElem_toArray, List.getElem_cons_zero, List.getElem_cons_succ])
  first
  | (refine wpAnyH_take (i := 4) (v := ?_) rfl (by kernel_rfl) (by kernel_rfl) (by kernel_rfl) (fun _ _ _ h => h) (Or.inl ⟨by rfl, ?_⟩) hS ?_; rotate_left; (· (intro y hy; (try dsimp only at hy); go_simp; try with_reducible rfl)); try simp only [Act.put, List.setIfInBounds_toArray, List.set_cons_zero, List.set_cons_succ, List.getElem_toArray, List.getElem_cons_zero, List.getElem_cons_succ])
  | (refine wpAnyH_take (i := 4) (v := undef) rfl (by kernel_rfl) (by kernel_rfl) (by kernel_rfl) (fun _ _ _ h => h) (Or.inr ⟨by rfl, rfl⟩) hS ?_; try simp only [Act.put, List.setIfInBounds_toArray, List.set_cons_zero, List.set_cons_succ, List.getElem_toArray, List.getElem_cons_zero, List.getElem_cons_succ])
  first
  | (refine wpAnyH_take (i := 5) (v := ?_) rfl (by kernel_rfl) (by kernel_rfl) (by kernel_rfl) (fun _ _ _ h => h) (Or.inl ⟨by rfl, ?_⟩) hS ?_; rotate_left; (· (intro y hy; (try dsimp only at hy); go_simp; try with_reducible rfl)); try simp only [Act.put, List.setIfInBounds_toArray, List.set_cons_zero, List.set_cons_succ, List.getElem_toArray, List.getElem_cons_zero, List.getElem_cons_succ])
  | (refine wpAnyH_take (i := 5) (v := undef) rfl (by kernel_rfl) (by kernel_rfl) (by kernel_rfl) (fun _ _ _ h => h) (Or.inr ⟨by rfl, rfl⟩) hS ?_; try simp only [Act.put, List.setIfInBounds_toArray, List.set_cons_zero, List.set_cons_succ, List.getElem_toArray, List.getElem_cons_zero, List.getElem_cons_succ])
  first
  | (refine wpAnyH_take (i := 6) (v := ?_) rfl (by kernel_rfl) (by kernel_rfl) (by kernel_rfl) (fun _ _ _ h => h) (Or.inl ⟨by rfl, ?_⟩) hS ?_; rotate_left; (· (intro y hy; (try dsimp only at hy); go_simp; try with_reducible rfl)); try simp only [Act.put, List.setIfInBounds_toArray, List.set_cons_zero, List.set_cons_succ, List.getElem_toArray, List.getElem_cons_zero, List.getElem_cons_succ])
  | (refine wpAnyH_take (i := 6) (v := undef) rfl (by kernel_rfl) (by kernel_rfl) (by kernel_rfl) (fun _ _ _ h => h) (Or.inr ⟨by rfl, rfl⟩) hS ?_; try simp only [Act.put, List.setIfInBounds_toArray, List.set_cons_zero, List.set_cons_succ, List.getElem_toArray, List.getElem_cons_zero, List.getElem_cons_succ])
  first
  | (refine wpAnyH_take (i := 7) (v := ?_) rfl (by kernel_rfl) (by kernel_rfl) (by kernel_rfl) (fun _ _ _ h => h) (Or.inl ⟨by rfl, ?_⟩) hS ?_; rotate_left; (· (intro y hy; (try dsimp only at hy); go_simp; try with_reducible rfl)); try simp only [Act.put, List.setIfInBounds_toArray, List.set_cons_zero, List.set_cons_succ, List.getElem_toArray, List.getElem_cons_zero, List.getElem_cons_succ])
  | (refine wpAnyH_take (i := 7) (v := undef) rfl (by kernel_rfl) (by kernel_rfl) (by kernel_rfl) (fun _ _ _ h => h) (Or.inr ⟨by rfl, rfl⟩) hS ?_; try simp only [Act.put, List.setIfInBounds_toArray, List.set_cons_zero, List.set_cons_succ, List.getElem_toArray, List.getElem_cons_zero, List.getElem_cons_succ])
  refine wpAnyH_ready (rs := [8]) (by kernel_rfl) (by simp) ?_
  refine AllReadyH.cons (o := _) rfl (fun K hK => ?_) AllReadyH.nil
  go_simp
  refine (M2 _ hd.ar).mono ?_
  rintro e y ⟨sv, rfl, hown, hb⟩
  have hy := hd.on hb
  have hcy := hcd.trans (Chg.of_below hb (Nat.le_refl _))
  refine hK.out _ _ (⟨hy.blk.cell 0, hy.blk.cell 12⟩) (fun hS => ?_)
  clear hK K
  try simp only [Act.put, List.setIfInBounds_toArray, List.set_cons_zero, List.set_cons_succ]
  first
  | (refine wpAnyH_take (i := 9) (v := ?_) rfl (by kernel_rfl) (by kernel_rfl) (by kernel_rfl) (fun _ _ _ h => h) (Or.inl ⟨by rfl, ?_⟩) hS ?_; rotate_left; (· (intro y hy; (try dsimp only at hy); go_simp; try with_reducible rfl)); try simp only [Act.put, List.setIfInBounds_toArray, List.set_cons_zero, List.set_cons_succ, List.getElem_toArray, List.getElem_cons_zero, List.getElem_cons_succ])
  | (refine wpAnyH_take (i := 9) (v := undef) rfl (by kernel_rfl) (by kernel_rfl) (by kernel_rfl) (fun _ _ _ h => h) (Or.inr ⟨by rfl, rfl⟩) hS ?_; try simp only [Act.put, List.setIfInBounds_toArray, List.set_cons_zero, List.set_cons_succ, List.getElem_toArray, List.getElem_cons_zero, List.getElem_cons_succ])
  first
  | (refine wpAnyH_take (i := 10) (v := ?_) rfl (by kernel_rfl) (by kernel_rfl) (by kernel_rfl) (fun _ _ _ h => h) (Or.inl ⟨by rfl, ?_⟩) hS ?_; rotate_left; (· (intro y hy; (try dsimp only at hy); go_simp; try with_reducible rfl)); try simp only [Act.put, List.setIfInBounds_toArray, List.set_cons_zero, List.set_cons_succ, List.getElem_toArray, List.getElem_cons_zero, List.getElem_cons_succ])
  | (refine wpAnyH_take (i := 10) (v := undef) rfl (by kernel_rfl) (by kernel_rfl) (by kernel_rfl) (fun _ _ _ h => h) (Or.inr ⟨by rfl, rfl⟩) hS ?_; try simp only [Act.put, List.setIfInBounds_toArray, List.set_cons_zero, List.set_cons_succ, List.getElem_toArray, List.getElem_cons_zero, List.getElem_cons_succ])
  first
  | (refine wpAnyH_take (i := 11) (v := ?_) rfl (by kernel_rfl) (by kernel_rfl) (by kernel_rfl) (fun _ _ _ h => h) (Or.inl ⟨by rfl, ?_⟩) hS ?_; rotate_left; (· (intro y hy; (try dsimp only at hy); go_simp; try with_reducible rfl)); try simp only [Act.put, List.setIfInBounds_toArray, List.set_cons_zero, List.set_cons_succ, List.getElem_toArray, List.getElem_cons_zero, List.getElem_cons_succ])
  | (refine wpAnyH_take (i := 11) (v := undef) rfl (by kernel_rfl) (by kernel_rfl) (by kernel_rfl) (fun _ _ _ h => h) (Or.inr ⟨by rfl, rfl⟩) hS ?_; try simp only [Act.put, List.setIfInBounds_toArray, List.set_cons_zero, List.set_cons_succ, List.getElem_toArray, List.getElem_cons_zero, List.getElem_cons_succ])
  first
  | (refine wpAnyH_take (i := 12) (v := ?_) rfl (by kernel_rfl) (by kernel_rfl) (by kernel_rfl) (fun _ _ _ h => h) (Or.inl ⟨by rfl, ?_⟩) hS ?_; rotate_left; (· (intro y hy; (try dsimp only at hy); go_simp; try with_reducible rfl)); try simp only [Act.put, List.setIfInBounds_toArray, List.set_cons_zero, List.set_cons_succ, List.getElem_toArray, List.getElem_cons_zero, List.getElem_cons_succ])
  | (refine wpAnyH_take (i := 12) (v := undef) rfl (by kernel_rfl) (by kernel_rfl) (by kernel_rfl) (fun _ _ _ h => h) (Or.inr ⟨by rfl, rfl⟩) hS ?_; try simp only [Act.put, List.setIfInBounds_toArray, List.set_cons_zero, List.set_cons_succ, List.getElem_toArray, List.getElem_cons_zero, List.getElem_cons_succ])
  first
  | (refine wpAnyH_take (i := 13) (v := ?_) rfl (by kernel_rfl) (by kernel_rfl) (by kernel_rfl) (fun _ _ _ h => h) (Or.inl ⟨by rfl, ?_⟩) hS ?_; rotate_left; (· (intro y hy; (try dsimp only at hy); go_simp; try with_reducible rfl)); try simp only [Act.put, List.setIfInBounds_toArray, List.set_cons_zero, List.set_cons_succ, List.getElem_toArray, List.getElem_cons_zero, List.getElem_cons_succ])
  | (refine wpAnyH_take (i := 13) (v := undef) rfl (by kernel_rfl) (by kernel_rfl) (by kernel_rfl) (fun _ _ _ h => h) (Or.inr ⟨by rfl, rfl⟩) hS ?_; try simp only [Act.put, List.setIfInBounds_toArray, List.set_cons_zero, List.set_cons_succ, List.getElem_toArray, List.getElem_cons_zero, List.getElem_cons_succ])
  refine wpAnyH_done (by kernel_rfl) ?_ _
  refine NoPanic.normal ?_
  clear hS hd hcd M2 hb
  have hxw : w.heap.size ≤ x.drew.heap.size := hcx0
  replace hown := own_base hown hxw
  have hsf : ∀ g, sv.ownBlock = some g → ¬ K0 g := fun g e hk => by
    have := (World.ownsRow.lt hown g e).1
    have := hKw g hk
    omega
  have hy0 : HeapAt y K0 H s := ⟨P, b, v0, v1, v2, v3, hy, hF⟩
  clear hxw hcx0 hy hF
  have HPS := Lib.hid hps
  clear hps
  go_upto_region 4 with fail
  obtain ⟨sa, sc', hsv⟩ := own_slice hown
  go_wp2
  go_loopw [35] (fun i wr => ∃ k : Nat, k ≤ n ∧ i = .int .i64 k ∧ ∃ Kr, HeapAt wr Kr H (s.movedL (ps.take k)) ∧ Hid (∀ k, Kr k → K0 k ∨ w.heap.size ≤ k) ∧ Chg K0 w wr ∧ wr.ownsRow w.heap.size 3 1 sv n ((nums (s.movVL (ps.take k) ++ ps.drop k)).map (Value.int .i64)) ∧ Hid (∀ g, sv.ownBlock = some g → ¬ Kr g)) (fun i _ => n - (intOf i).toNat)
  case atStart => exact ⟨0, by omega, rfl, K0, hy0, Lib.hid fun k h => .inl h, hcy, hown, Lib.hid hsf⟩
  case round =>
    clear hsv
    obtain ⟨k, hk, rfl, Kr, hwr, hKr, hcr, hor, hsr⟩ := hrel
    by_cases hlt : k < n
    · obtain ⟨q, hq⟩ : ∃ q, (s.movedL (ps.take k)).movV (ps.getD k 0) = q := ⟨_, rfl⟩
      obtain ⟨l1, l2⟩ := movVL_set s (ps := ps) (k := k) (by omega) q hq.symm
      have M := movedH (g.movedL (ps.take k)) hwr (inOk_movedL (ps.take k) (HPS.out (ps.getD k 0) (by
        rw [List.getD_eq_getElem?_getD, List.getElem?_eq_getElem (by omega)]
        exact List.getElem_mem _)))
      rw [← movedL_snoc, ← take_next (by omega), hq] at M
      clear hq
      obtain ⟨ls, hls⟩ : ∃ ls, nums (s.movVL (ps.take k) ++ ps.drop k) = ls := ⟨_, rfl⟩
      rw [hls] at hor l1 l2
      clear hls
      have L1 := Lib.hid l1
      clear l1
      obtain ⟨gb, cap, e, hg1, hg2, hcp, _, _, hcell⟩ := own_cell hor (by omega)
      have Hor := Lib.hid hor
      clear hor
      have c0 := hcell k hlt
      rw [l2] at c0
      clear l2 hcell
      have hgK : ¬ Kr gb := hsr.out gb (by rw [e]; rfl)
      subst e
      generalize ps.getD k 0 = pp at *
      have b0 : (0 : Int) ≤ (k : Int) := by omega
      have b1 : (k : Int) < (n : Int) := by omega
      go_wp2_with fail
      refine M.mono ?_
      rintro e w2 ⟨rfl, K2, hw2, hK2, hc2⟩
      have ho2 := own_keep Hor.out hc2 (fun g e => by
        have : gb = g := by simpa [Value.ownBlock] using e
        subst this; exact hgK)
      obtain ⟨gb', cap', e', h1, h2, f0, d0, ho3⟩ := own_set ho2 hlt (q : Int)
      obtain ⟨rfl, rfl⟩ : gb = gb' ∧ cap = cap' := by simp at e'; exact e'
      have hgK2 : ¬ K2 gb := fun h => (hK2 gb h).elim hgK fun h' => Nat.not_lt.2 h' hg2
      have hw3 := hw2.chg ((Chg.refl (· = gb) w2).setCell (p := ⟨gb, k, none⟩) (.inl rfl) (.int .i64 q)) fun k hk _ e => by subst e; exact hgK2 hk
      have hc3 := (hcr.step hc2 fun k hk => hKr.out k hk).setCell (p := ⟨gb, k, none⟩) (.inr hg1) (.int .i64 q)
      have hK3 : ∀ k, K2 k → K0 k ∨ w.heap.size ≤ k := fun k hk => (hK2 k hk).elim (hKr.out k) fun e => .inr (Nat.le_trans hcr.size e)
      rw [L1.out] at ho3
      have Ho3 := Lib.hid ho3
      clear ho3 ho2 e' hw2 hc2 hK2 M
      go_wp2
      go_roundw
      case rel => exact ⟨k + 1, by omega, by go_num, K2, hw3, Lib.hid hK3, hc3, Ho3.out, Lib.hid fun g e => by
        have : gb = g := by simpa [Value.ownBlock] using e
        subst this; exact hgK2⟩
      case measure => simp [intOf]; omega
    · obtain rfl : k = n := by omega
      rw [List.take_of_length_le (by omega)] at hwr hor
      rw [List.drop_of_length_le (by omega), List.append_nil] at hor
      obtain ⟨P', b', x0, x1, x2, x3, h1, hF1⟩ := hwr
      have hhd := g.movedL_head ps hin
      have g1 := g.movedL ps
      have hsc1 : (s.movedL ps).sc = s.sc := (movedL_same s ps).2.2.2.2.1
      have hvl : (s.movVL ps).length = k := by rw [movVL_length, hpl]
      have hvb : ∀ v ∈ s.movVL ps, v ≤ 131072 := fun v hv => g1.pn_le (g.movVL_in ps HPS.out v hv)
      have ob1 : isOb (s.movedL ps).l s.sc := (isOb_congr (by rw [g1.len, g.len, (movedL_same s ps).2.2.2.1]) hhd).2 ob
      have e1 : hdW (s.movedL ps).l s.sc = hdW s.l s.sc := hdW_congr hhd
      have o1 := ob1.of
      rw [e1] at o1
      have hlen1 : (setP (s.movedL ps).l s.sc (s.movVL ps)).length = (s.movedL ps).l.length := setP_length ..
      have o2 := o1.same (l' := setP (s.movedL ps).l s.sc (s.movVL ps)) hlen1 (by rw [setP_at (by have := o1.room; omega), if_neg (by omega)])
      have e2 : szA s.l s.sc = Cls.rd (3 + hp (hdW s.l s.sc) + hd (hdW s.l s.sc)) := rfl
      have er : nums (s.movVL ps) = nums (s.movVL ps) := rfl
      have hrow : RowIs wr sv (s.movVL ps) := by rw [RowIs, hvl]; exact own_base hor (Nat.zero_le _)
      have M9 := fun x hA hv => setStrong_at s.sc sv (s.movVL ps) x (P := P') (b := b') hA o1 (by rw [hvl]; exact Hns.out.symm) hv (hrow.ne h1.ar.row (by decide)) hvb
      have hrd := hrow.reads
      have hscl : s.sc ≤ 65536 := by have := g.pn_lt hin; have := g.len; have := g.z1; omega
      obtain ⟨s1, hs1⟩ : ∃ s1, s.movedL ps = s1 := ⟨_, rfl⟩
      obtain ⟨vs, hvs⟩ : ∃ vs, s.movVL ps = vs := ⟨_, rfl⟩
      rw [hs1] at h1 hsc1 o1 M9 hlen1 o2
      rw [hvs] at M9 o2 hrd hlen1
      have Hs1 := Lib.hid hs1
      have Hvs := Lib.hid hvs
      obtain ⟨l2, hl2⟩ : ∃ l2, setP s1.l s.sc vs = l2 := ⟨_, rfl⟩
      rw [hl2] at M9 o2 hlen1
      have Hl2 := Lib.hid hl2
      obtain ⟨sz, hsz⟩ : ∃ sz, szA s.l s.sc = sz := ⟨_, rfl⟩
      have Hsz := Lib.hid hsz
      rw [hsz] at e2 hnA
      obtain ⟨tp, htp⟩ : ∃ tp, hp (hdW s.l s.sc) = tp := ⟨_, rfl⟩
      obtain ⟨td, htd⟩ : ∃ td, hd (hdW s.l s.sc) = td := ⟨_, rfl⟩
      obtain ⟨tw, htw⟩ : ∃ tw, hw (hdW s.l s.sc) = tw := ⟨_, rfl⟩
      obtain ⟨tf, htf⟩ : ∃ tf, hf (hdW s.l s.sc) = tf := ⟨_, rfl⟩
      obtain ⟨tr, htr⟩ : ∃ tr, hr (hdW s.l s.sc) = tr := ⟨_, rfl⟩
      rw [htp, htd, htw, htf, htr] at o2
      rw [htp, htd] at e2
      have MT := taken_ok tp td tw tf o2.right o2.ptrs o2.data
      rw [← e2] at MT
      have M10 := fun x (hx : ArenaAt 76 x P' b' l2) => shape_at s.sc x hx o2
      have i12 : IntKind.i64.wrap ((s.sc : Int) + (sz : Int)) = ((s.sc + sz : Nat) : Int) := by rw [IntWalk.i64_in _ (by omega)]; omega
      obtain ⟨nsc, hnsc⟩ : ∃ nsc, s.sc + sz = nsc := ⟨_, rfl⟩
      rw [hnsc] at i12
      have Hnsc := Lib.hid hnsc
      clear hs1 hvs hl2 hsz htp htd htw htf htr e1 er hnsc o1 ob1 hhd hvl hvb e2 hlen1 hor hsr
      go_upto_region 9 with fail
      have hd : HeapIn wr.drew H P' b' x0 x1 x2 x3 s1 := h1.on (Below.refl _ wr).drew
      have hcd := hcr.drew
      have hrdd : ReadsAs .i64 wr.drew sv (nums vs) := hrd.drew
      have d12 : wr.drew.cell? ⟨H, 12, none⟩ = some (.int .i64 s.sc) := by rw [← hsc1]; exact hd.blk.cell 12
      clear h1 hcr hrd
      refine wp_region_noPanic ?_
      refine wp_region_held_drew (S := fun y => y.cell? ⟨H, 0, none⟩ = some (.pointer (some ⟨P', 0, none⟩)) ∧ y.cell? ⟨H, 12, none⟩ = some (.int .i64 s.sc)) (by kernel_rfl) ⟨hd.blk.cell 0, d12⟩ (fun hS => ?_)
      first
      | (refine wpAnyH_take (i := 0) (v := ?_) rfl (by kernel_rfl) (by kernel_rfl) (by kernel_rfl) (fun _ _ _ h => h) (Or.inl ⟨by rfl, ?_⟩) hS ?_; rotate_left; (· (intro y hy; (try dsimp only at hy); go_simp; try with_reducible rfl)); try simp only [Act.put, List.setIfInBounds_toArray, List.set_cons_zero, List.set_cons_succ, List.getElem_toArray, List.getElem_cons_zero, List.getElem_cons_succ])
      | (refine wpAnyH_take (i := 0) (v := undef) rfl (by kernel_rfl) (by kernel_rfl) (by kernel_rfl) (fun _ _ _ h => h) (Or.inr ⟨by rfl, rfl⟩) hS ?_; try simp only [Act.put, List.setIfInBounds_toArray, List.set_cons_zero, List.set_cons_succ, List.getElem_toArray, List.getElem_cons_zero, List.getElem_cons_succ])
      first
      | (refine wpAnyH_take (i := 1) (v := ?_) rfl (by kernel_rfl) (by kernel_rfl) (by kernel_rfl) (fun _ _ _ h => h) (Or.inl ⟨by rfl, ?_⟩) hS ?_; rotate_left; (· (intro y hy; (try dsimp only at hy); go_simp; try with_reducible rfl)); try simp only [Act.put, List.setIfInBounds_toArray, List.set_cons_zero, List.set_cons_succ, List.getElem_toArray, List.getElem_cons_zero, List.getElem_cons_succ])
      | (refine wpAnyH_take (i := 1) (v := undef) rfl (by kernel_rfl) (by kernel_rfl) (by kernel_rfl) (fun _ _ _ h => h) (Or.inr ⟨by rfl, rfl⟩) hS ?_; try simp only [Act.put, List.setIfInBounds_toArray, List.set_cons_zero, List.set_cons_succ, List.getElem_toArray, List.getElem_cons_zero, List.getElem_cons_succ])
      first
      | (refine wpAnyH_take (i := 2) (v := ?_) rfl (by kernel_rfl) (by kernel_rfl) (by kernel_rfl) (fun _ _ _ h => h) (Or.inl ⟨by rfl, ?_⟩) hS ?_; rotate_left; (· (intro y hy; (try dsimp only at hy); go_simp; try with_reducible rfl)); try simp only [Act.put, List.setIfInBounds_toArray, List.set_cons_zero, List.set_cons_succ, List.getElem_toArray, List.getElem_cons_zero, List.getElem_cons_succ])
      | (refine wpAnyH_take (i := 2) (v := undef) rfl (by kernel_rfl) (by kernel_rfl) (by kernel_rfl) (fun _ _ _ h => h) (Or.inr ⟨by rfl, rfl⟩) hS ?_; try simp only [Act.put, List.setIfInBounds_toArray, List.set_cons_zero, List.set_cons_succ, List.getElem_toArray, List.getElem_cons_zero, List.getElem_cons_succ])
      first
      | (refine wpAnyH_take (i := 3) (v := ?_) rfl (by kernel_rfl) (by kernel_rfl) (by kernel_rfl) (fun _ _ _ h => h) (Or.inl ⟨by rfl, ?_⟩) hS ?_; rotate_left; (· (intro y hy; (try dsimp only at hy); go_simp; try with_reducible rfl)); try simp only [Act.put, List.setIfInBounds_toArray, List.set_cons_zero, List.set_cons_succ, List.getElem_toArray, List.getElem_cons_zero, List.getElem_cons_succ])
      | (refine wpAnyH_take (i := 3) (v := undef) rfl (by kernel_rfl) (by kernel_rfl) (by kernel_rfl) (fun _ _ _ h => h) (Or.inr ⟨by rfl, rfl⟩) hS ?_; try simp only [Act.put, List.setIfInBounds_toArray, List.set_cons_zero, List.set_cons_succ, List.getElem_toArray, List.getElem_cons_zero, List.getElem_cons_succ])
      first
      | (refine wpAnyH_take (i := 4) (v := ?_) rfl (by kernel_rfl) (by kernel_rfl) (by kernel_rfl) (fun _ _ _ h => h) (Or.inl ⟨by rfl, ?_⟩) hS ?_; rotate_left; (· (intro y hy; (try dsimp only at hy); go_simp; try with_reducible rfl)); try simp only [Act.put, List.setIfInBounds_toArray, List.set_cons_zero, List.set_cons_succ, List.getElem_toArray, List.getElem_cons_zero, List.getElem_cons_succ])
      | (refine wpAnyH_take (i := 4) (v := undef) rfl (by kernel_rfl) (by kernel_rfl) (by kernel_rfl) (fun _ _ _ h => h) (Or.inr ⟨by rfl, rfl⟩) hS ?_; try simp only [Act.put, List.setIfInBounds_toArray, List.set_cons_zero, List.set_cons_succ, List.getElem_toArray, List.getElem_cons_zero, List.getElem_cons_succ])
      first
      | (refine wpAnyH_take (i := 5) (v := ?_) rfl (by kernel_rfl) (by kernel_rfl) (by kernel_rfl) (fun _ _ _ h => h) (Or.inl ⟨by rfl, ?_⟩) hS ?_; rotate_left; (· (intro y hy; (try dsimp only at hy); go_simp; try with_reducible rfl)); try simp only [Act.put, List.setIfInBounds_toArray, List.set_cons_zero, List.set_cons_succ, List.getElem_toArray, List.getElem_cons_zero, List.getElem_cons_succ])
      | (refine wpAnyH_take (i := 5) (v := undef) rfl (by kernel_rfl) (by kernel_rfl) (by kernel_rfl) (fun _ _ _ h => h) (Or.inr ⟨by rfl, rfl⟩) hS ?_; try simp only [Act.put, List.setIfInBounds_toArray, List.set_cons_zero, List.set_cons_succ, List.getElem_toArray, List.getElem_cons_zero, List.getElem_cons_succ])
      first
      | (refine wpAnyH_take (i := 6) (v := ?_) rfl (by kernel_rfl) (by kernel_rfl) (by kernel_rfl) (fun _ _ _ h => h) (Or.inl ⟨by rfl, ?_⟩) hS ?_; rotate_left; (· (intro y hy; (try dsimp only at hy); go_simp; try with_reducible rfl)); try simp only [Act.put, List.setIfInBounds_toArray, List.set_cons_zero, List.set_cons_succ, List.getElem_toArray, List.getElem_cons_zero, List.getElem_cons_succ])
      | (refine wpAnyH_take (i := 6) (v := undef) rfl (by kernel_rfl) (by kernel_rfl) (by kernel_rfl) (fun _ _ _ h => h) (Or.inr ⟨by rfl, rfl⟩) hS ?_; try simp only [Act.put, List.setIfInBounds_toArray, List.set_cons_zero, List.set_cons_succ, List.getElem_toArray, List.getElem_cons_zero, List.getElem_cons_succ])
      first
      | (refine wpAnyH_take (i := 7) (v := ?_) rfl (by kernel_rfl) (by kernel_rfl) (by kernel_rfl) (fun _ _ _ h => h) (Or.inl ⟨by rfl, ?_⟩) hS ?_; rotate_left; (· (intro y hy; (try dsimp only at hy); go_simp; try with_reducible rfl)); try simp only [Act.put, List.setIfInBounds_toArray, List.set_cons_zero, List.set_cons_succ, List.getElem_toArray, List.getElem_cons_zero, List.getElem_cons_succ])
      | (refine wpAnyH_take (i := 7) (v := undef) rfl (by kernel_rfl) (by kernel_rfl) (by kernel_rfl) (fun _ _ _ h => h) (Or.inr ⟨by rfl, rfl⟩) hS ?_; try simp only [Act.put, List.setIfInBounds_toArray, List.set_cons_zero, List.set_cons_succ, List.getElem_toArray, List.getElem_cons_zero, List.getElem_cons_succ])
      first
      | (refine wpAnyH_take (i := 8) (v := ?_) rfl (by kernel_rfl) (by kernel_rfl) (by kernel_rfl) (fun _ _ _ h => h) (Or.inl ⟨by rfl, ?_⟩) hS ?_; rotate_left; (· (intro y hy; (try dsimp only at hy); go_simp; try with_reducible rfl)); try simp only [Act.put, List.setIfInBounds_toArray, List.set_cons_zero, List.set_cons_succ, List.getElem_toArray, List.getElem_cons_zero, List.getElem_cons_succ])
      | (refine wpAnyH_take (i := 8) (v := undef) rfl (by kernel_rfl) (by kernel_rfl) (by kernel_rfl) (fun _ _ _ h => h) (Or.inr ⟨by rfl, rfl⟩) hS ?_; try simp only [Act.put, List.setIfInBounds_toArray, List.set_cons_zero, List.set_cons_succ, List.getElem_toArray, List.getElem_cons_zero, List.getElem_cons_succ])
      refine wpAnyH_ready (rs := [9]) (by kernel_rfl) (by simp) ?_
      refine AllReadyH.cons (o := _) rfl (fun K hK => ?_) AllReadyH.nil
      go_simp
      refine (M9 _ hd.ar hrdd).mono ?_
      rintro e y9 ⟨rfl, hA, hc⟩
      have h9 := hd.put hA hc
      have hc9 := hcd.step (hc.mono (T := fun k => K0 k ∨ w.heap.size ≤ k) fun k e => by subst e; exact hKr.out _ (hF1 _ (.inr (.inr (.inl rfl))))) fun k e => e
      have d12' : y9.cell? ⟨H, 12, none⟩ = some (.int .i64 s.sc) := by rw [← hsc1]; exact h9.blk.cell 12
      refine hK.out _ _ (⟨h9.blk.cell 0, d12'⟩) (fun hS => ?_)
      clear hK K
      try simp only [Act.put, List.setIfInBounds_toArray, List.set_cons_zero, List.set_cons_succ]
      refine wpAnyH_done (by kernel_rfl) ?_ _
      refine NoPanic.normal ?_
      clear hS hd hcd M9 hA hc d12 hrdd
      go_upto_region 10 with fail
      have hsc9 : ({ s1 with l := l2 } : Hp).sc = s.sc := hsc1
      obtain ⟨s2, hs2⟩ : ∃ s2, ({ s1 with l := l2 } : Hp) = s2 := ⟨_, rfl⟩
      have hl2' : s2.l = l2 := by rw [← hs2]
      have hrows : ∀ nn, ({ s2 with sc := nn } : Hp) = { s1 with l := l2, sc := nn } := fun nn => by rw [← hs2]
      rw [hs2] at h9 hsc9
      clear hs2
      rw [← hl2'] at M10
      go_cut [7, 8, 9] from 57 to 83 (fun s7 s8 s9 wx => ∃ m : Nat, s7 = .pointer (some ⟨m, 0, none⟩) ∧ BlkIs wx m #[.int .i64 tp, .int .i64 td, .bool tw, .bool tf] 32 ∧ HeapIn wx H P' b' x0 x1 x2 x3 s2 ∧ Chg (fun k => K0 k ∨ w.heap.size ≤ k) w wx)
      case first =>
        refine wp_region_noPanic ?_
        have hd : HeapIn y9.drew H P' b' x0 x1 x2 x3 s2 := h9.on (Below.refl _ y9).drew
        have hcd := (hc9.mono (T := fun k => K0 k ∨ w.heap.size ≤ k) fun k e => .inl e).drew
        have hSof : ∀ y, HeapIn y H P' b' x0 x1 x2 x3 s2 → y.cell? ⟨H, 0, none⟩ = some (.pointer (some ⟨P', 0, none⟩)) ∧ y.cell? ⟨H, 12, none⟩ = some (.int .i64 s.sc) := fun y hy => ⟨hy.blk.cell 0, by rw [← hsc9]; exact hy.blk.cell 12⟩
        have HSof := Lib.hid hSof
        clear hSof
        refine wp_region_held_drew (S := fun y => y.cell? ⟨H, 0, none⟩ = some (.pointer (some ⟨P', 0, none⟩)) ∧ y.cell? ⟨H, 12, none⟩ = some (.int .i64 s.sc)) (by kernel_rfl) (HSof.out _ hd) (fun hS => ?_)
        first
        | (refine wpAnyH_take (i := 0) (v := ?_) rfl (by kernel_rfl) (by kernel_rfl) (by kernel_rfl) (fun _ _ _ h => h) (Or.inl ⟨by rfl, ?_⟩) hS ?_; rotate_left; (· (intro y hy; (try dsimp only at hy); go_simp; try with_reducible rfl)); try simp only [Act.put, List.setIfInBounds_toArray, List.set_cons_zero, List.set_cons_succ, List.getElem_toArray, List.getElem_cons_zero, List.getElem_cons_succ])
        | (refine wpAnyH_take (i := 0) (v := undef) rfl (by kernel_rfl) (by kernel_rfl) (by kernel_rfl) (fun _ _ _ h => h) (Or.inr ⟨by rfl, rfl⟩) hS ?_; try simp only [Act.put, List.setIfInBounds_toArray, List.set_cons_zero, List.set_cons_succ, List.getElem_toArray, List.getElem_cons_zero, List.getElem_cons_succ])
        first
        | (refine wpAnyH_take (i := 1) (v := ?_) rfl (by kernel_rfl) (by kernel_rfl) (by kernel_rfl) (fun _ _ _ h => h) (Or.inl ⟨by rfl, ?_⟩) hS ?_; rotate_left; (· (intro y hy; (try dsimp only at hy); go_simp; try with_reducible rfl)); try simp only [Act.put, List.setIfInBounds_toArray, List.set_cons_zero, List.set_cons_succ, List.getElem_toArray, List.getElem_cons_zero, List.getElem_cons_succ])
        | (refine wpAnyH_take (i := 1) (v := undef) rfl (by kernel_rfl) (by kernel_rfl) (by kernel_rfl) (fun _ _ _ h => h) (Or.inr ⟨by rfl, rfl⟩) hS ?_; try simp only [Act.put, List.setIfInBounds_toArray, List.set_cons_zero, List.set_cons_succ, List.getElem_toArray, List.getElem_cons_zero, List.getElem_cons_succ])
        first
        | (refine wpAnyH_take (i := 2) (v := ?_) rfl (by kernel_rfl) (by kernel_rfl) (by kernel_rfl) (fun _ _ _ h => h) (Or.inl ⟨by rfl, ?_⟩) hS ?_; rotate_left; (· (intro y hy; (try dsimp only at hy); go_simp; try with_reducible rfl)); try simp only [Act.put, List.setIfInBounds_toArray, List.set_cons_zero, List.set_cons_succ, List.getElem_toArray, List.getElem_cons_zero, List.getElem_cons_succ])
        | (refine wpAnyH_take (i := 2) (v := undef) rfl (by kernel_rfl) (by kernel_rfl) (by kernel_rfl) (fun _ _ _ h => h) (Or.inr ⟨by rfl, rfl⟩) hS ?_; try simp only [Act.put, List.setIfInBounds_toArray, List.set_cons_zero, List.set_cons_succ, List.getElem_toArray, List.getElem_cons_zero, List.getElem_cons_succ])
        first
        | (refine wpAnyH_take (i := 3) (v := ?_) rfl (by kernel_rfl) (by kernel_rfl) (by kernel_rfl) (fun _ _ _ h => h) (Or.inl ⟨by rfl, ?_⟩) hS ?_; rotate_left; (· (intro y hy; (try dsimp only at hy); go_simp; try with_reducible rfl)); try simp only [Act.put, List.setIfInBounds_toArray, List.set_cons_zero, List.set_cons_succ, List.getElem_toArray, List.getElem_cons_zero, List.getElem_cons_succ])
        | (refine wpAnyH_take (i := 3) (v := undef) rfl (by kernel_rfl) (by kernel_rfl) (by kernel_rfl) (fun _ _ _ h => h) (Or.inr ⟨by rfl, rfl⟩) hS ?_; try simp only [Act.put, List.setIfInBounds_toArray, List.set_cons_zero, List.set_cons_succ, List.getElem_toArray, List.getElem_cons_zero, List.getElem_cons_succ])
        first
        | (refine wpAnyH_take (i := 4) (v := ?_) rfl (by kernel_rfl) (by kernel_rfl) (by kernel_rfl) (fun _ _ _ h => h) (Or.inl ⟨by rfl, ?_⟩) hS ?_; rotate_left; (· (intro y hy; (try dsimp only at hy); go_simp; try with_reducible rfl)); try simp only [Act.put, List.setIfInBounds_toArray, List.set_cons_zero, List.set_cons_succ, List.getElem_toArray, List.getElem_cons_zero, List.getElem_cons_succ])
        | (refine wpAnyH_take (i := 4) (v := undef) rfl (by kernel_rfl) (by kernel_rfl) (by kernel_rfl) (fun _ _ _ h => h) (Or.inr ⟨by rfl, rfl⟩) hS ?_; try simp only [Act.put, List.setIfInBounds_toArray, List.set_cons_zero, List.set_cons_succ, List.getElem_toArray, List.getElem_cons_zero, List.getElem_cons_succ])
        first
        | (refine wpAnyH_take (i := 5) (v := ?_) rfl (by kernel_rfl) (by kernel_rfl) (by kernel_rfl) (fun _ _ _ h => h) (Or.inl ⟨by rfl, ?_⟩) hS ?_; rotate_left; (· (intro y hy; (try dsimp only at hy); go_simp; try with_reducible rfl)); try simp only [Act.put, List.setIfInBounds_toArray, List.set_cons_zero, List.set_cons_succ, List.getElem_toArray, List.getElem_cons_zero, List.getElem_cons_succ])
        | (refine wpAnyH_take (i := 5) (v := undef) rfl (by kernel_rfl) (by kernel_rfl) (by kernel_rfl) (fun _ _ _ h => h) (Or.inr ⟨by rfl, rfl⟩) hS ?_; try simp only [Act.put, List.setIfInBounds_toArray, List.set_cons_zero, List.set_cons_succ, List.getElem_toArray, List.getElem_cons_zero, List.getElem_cons_succ])
        first
        | (refine wpAnyH_take (i := 6) (v := ?_) rfl (by kernel_rfl) (by kernel_rfl) (by kernel_rfl) (fun _ _ _ h => h) (Or.inl ⟨by rfl, ?_⟩) hS ?_; rotate_left; (· (intro y hy; (try dsimp only at hy); go_simp; try with_reducible rfl)); try simp only [Act.put, List.setIfInBounds_toArray, List.set_cons_zero, List.set_cons_succ, List.getElem_toArray, List.getElem_cons_zero, List.getElem_cons_succ])
        | (refine wpAnyH_take (i := 6) (v := undef) rfl (by kernel_rfl) (by kernel_rfl) (by kernel_rfl) (fun _ _ _ h => h) (Or.inr ⟨by rfl, rfl⟩) hS ?_; try simp only [Act.put, List.setIfInBounds_toArray, List.set_cons_zero, List.set_cons_succ, List.getElem_toArray, List.getElem_cons_zero, List.getElem_cons_succ])
        first
        | (refine wpAnyH_take (i := 7) (v := ?_) rfl (by kernel_rfl) (by kernel_rfl) (by kernel_rfl) (fun _ _ _ h => h) (Or.inl ⟨by rfl, ?_⟩) hS ?_; rotate_left; (· (intro y hy; (try dsimp only at hy); go_simp; try with_reducible rfl)); try simp only [Act.put, List.setIfInBounds_toArray, List.set_cons_zero, List.set_cons_succ, List.getElem_toArray, List.getElem_cons_zero, List.getElem_cons_succ])
        | (refine wpAnyH_take (i := 7) (v := undef) rfl (by kernel_rfl) (by kernel_rfl) (by kernel_rfl) (fun _ _ _ h => h) (Or.inr ⟨by rfl, rfl⟩) hS ?_; try simp only [Act.put, List.setIfInBounds_toArray, List.set_cons_zero, List.set_cons_succ, List.getElem_toArray, List.getElem_cons_zero, List.getElem_cons_succ])
        refine wpAnyH_ready (rs := [8, 13]) (by kernel_rfl) (by simp) ?_
        refine AllReadyH.cons (o := _) rfl (fun K hK => ?_) (AllReadyH.cons (o := _) rfl (fun K hK => ?_) AllReadyH.nil)
        · go_simp
          refine (M10 _ hd.ar).mono ?_
          rintro e v ⟨rfl, hb⟩
          have hv := hd.on hb
          have hcv := hcd.trans (Chg.of_below (S := fun k => K0 k ∨ w.heap.size ≤ k) hb (Nat.le_refl _))
          refine hK.out _ _ (HSof.out _ hv) (fun hS => ?_)
          clear hK K
          try simp only [Act.put, List.setIfInBounds_toArray, List.set_cons_zero, List.set_cons_succ]
          first
          | (refine wpAnyH_take (i := 9) (v := ?_) rfl (by kernel_rfl) (by kernel_rfl) (by kernel_rfl) (fun _ _ _ h => h) (Or.inl ⟨by rfl, ?_⟩) hS ?_; rotate_left; (· (intro y hy; (try dsimp only at hy); go_simp; try with_reducible rfl)); try simp only [Act.put, List.setIfInBounds_toArray, List.set_cons_zero, List.set_cons_succ, List.getElem_toArray, List.getElem_cons_zero, List.getElem_cons_succ])
          | (refine wpAnyH_take (i := 9) (v := undef) rfl (by kernel_rfl) (by kernel_rfl) (by kernel_rfl) (fun _ _ _ h => h) (Or.inr ⟨by rfl, rfl⟩) hS ?_; try simp only [Act.put, List.setIfInBounds_toArray, List.set_cons_zero, List.set_cons_succ, List.getElem_toArray, List.getElem_cons_zero, List.getElem_cons_succ])
          first
          | (refine wpAnyH_take (i := 10) (v := ?_) rfl (by kernel_rfl) (by kernel_rfl) (by kernel_rfl) (fun _ _ _ h => h) (Or.inl ⟨by rfl, ?_⟩) hS ?_; rotate_left; (· (intro y hy; (try dsimp only at hy); go_simp; try with_reducible rfl)); try simp only [Act.put, List.setIfInBounds_toArray, List.set_cons_zero, List.set_cons_succ, List.getElem_toArray, List.getElem_cons_zero, List.getElem_cons_succ])
          | (refine wpAnyH_take (i := 10) (v := undef) rfl (by kernel_rfl) (by kernel_rfl) (by kernel_rfl) (fun _ _ _ h => h) (Or.inr ⟨by rfl, rfl⟩) hS ?_; try simp only [Act.put, List.setIfInBounds_toArray, List.set_cons_zero, List.set_cons_succ, List.getElem_toArray, List.getElem_cons_zero, List.getElem_cons_succ])
          first
          | (refine wpAnyH_take (i := 11) (v := ?_) rfl (by kernel_rfl) (by kernel_rfl) (by kernel_rfl) (fun _ _ _ h => h) (Or.inl ⟨by rfl, ?_⟩) hS ?_; rotate_left; (· (intro y hy; (try dsimp only at hy); go_simp; try with_reducible rfl)); try simp only [Act.put, List.setIfInBounds_toArray, List.set_cons_zero, List.set_cons_succ, List.getElem_toArray, List.getElem_cons_zero, List.getElem_cons_succ])
          | (refine wpAnyH_take (i := 11) (v := undef) rfl (by kernel_rfl) (by kernel_rfl) (by kernel_rfl) (fun _ _ _ h => h) (Or.inr ⟨by rfl, rfl⟩) hS ?_; try simp only [Act.put, List.setIfInBounds_toArray, List.set_cons_zero, List.set_cons_succ, List.getElem_toArray, List.getElem_cons_zero, List.getElem_cons_succ])
          first
          | (refine wpAnyH_take (i := 12) (v := ?_) rfl (by kernel_rfl) (by kernel_rfl) (by kernel_rfl) (fun _ _ _ h => h) (Or.inl ⟨by rfl, ?_⟩) hS ?_; rotate_left; (· (intro y hy; (try dsimp only at hy); go_simp; try with_reducible rfl)); try simp only [Act.put, List.setIfInBounds_toArray, List.set_cons_zero, List.set_cons_succ, List.getElem_toArray, List.getElem_cons_zero, List.getElem_cons_succ])
          | (refine wpAnyH_take (i := 12) (v := undef) rfl (by kernel_rfl) (by kernel_rfl) (by kernel_rfl) (fun _ _ _ h => h) (Or.inr ⟨by rfl, rfl⟩) hS ?_; try simp only [Act.put, List.setIfInBounds_toArray, List.set_cons_zero, List.set_cons_succ, List.getElem_toArray, List.getElem_cons_zero, List.getElem_cons_succ])
          refine wpAnyH_ready (rs := [13]) (by kernel_rfl) (by simp) ?_
          refine AllReadyH.cons (o := _) rfl (fun K hK => ?_) AllReadyH.nil
          go_simp
          have hb2 := (Below.refl _ v).alloc (Nat.le_refl _) (.cells #[.int .i64 0, .int .i64 0, .bool false, .bool false] 32)
          refine hK.out _ _ (HSof.out _ (hv.on hb2)) (fun hS => ?_)
          clear hK K
          try simp only [Act.put, List.setIfInBounds_toArray, List.set_cons_zero, List.set_cons_succ]
          refine wpAnyH_ready (rs := [14]) (by kernel_rfl) (by simp) ?_
          refine AllReadyH.cons (o := _) rfl (fun K hK => ?_) AllReadyH.nil
          go_simp
          have hb3 := (Below.refl _ v).alloc (Nat.le_refl _) (.cells #[.int .i64 tp, .int .i64 td, .bool tw, .bool tf] 32)
          refine hK.out _ _ (HSof.out _ (hv.on hb3)) (fun hS => ?_)
          clear hK K
          try simp only [Act.put, List.setIfInBounds_toArray, List.set_cons_zero, List.set_cons_succ]
          first
          | (refine wpAnyH_take (i := 15) (v := ?_) rfl (by kernel_rfl) (by kernel_rfl) (by kernel_rfl) (fun _ _ _ h => h) (Or.inl ⟨by rfl, ?_⟩) hS ?_; rotate_left; (· (intro y hy; (try dsimp only at hy); go_simp; try with_reducible rfl)); try simp only [Act.put, List.setIfInBounds_toArray, List.set_cons_zero, List.set_cons_succ, List.getElem_toArray, List.getElem_cons_zero, List.getElem_cons_succ])
          | (refine wpAnyH_take (i := 15) (v := undef) rfl (by kernel_rfl) (by kernel_rfl) (by kernel_rfl) (fun _ _ _ h => h) (Or.inr ⟨by rfl, rfl⟩) hS ?_; try simp only [Act.put, List.setIfInBounds_toArray, List.set_cons_zero, List.set_cons_succ, List.getElem_toArray, List.getElem_cons_zero, List.getElem_cons_succ])
          first
          | (refine wpAnyH_take (i := 16) (v := ?_) rfl (by kernel_rfl) (by kernel_rfl) (by kernel_rfl) (fun _ _ _ h => h) (Or.inl ⟨by rfl, ?_⟩) hS ?_; rotate_left; (· (intro y hy; (try dsimp only at hy); go_simp; try with_reducible rfl)); try simp only [Act.put, List.setIfInBounds_toArray, List.set_cons_zero, List.set_cons_succ, List.getElem_toArray, List.getElem_cons_zero, List.getElem_cons_succ])
          | (refine wpAnyH_take (i := 16) (v := undef) rfl (by kernel_rfl) (by kernel_rfl) (by kernel_rfl) (fun _ _ _ h => h) (Or.inr ⟨by rfl, rfl⟩) hS ?_; try simp only [Act.put, List.setIfInBounds_toArray, List.set_cons_zero, List.set_cons_succ, List.getElem_toArray, List.getElem_cons_zero, List.getElem_cons_succ])
          refine wpAnyH_done (by kernel_rfl) ?_ _
          refine NoPanic.normal ?_
          go_wp2_with fail
          go_meet
          exact ⟨_, rfl, BlkIs.new v _ _, hv.on hb3, hcv.trans (Chg.of_below (S := fun k => K0 k ∨ w.heap.size ≤ k) hb3 (Nat.le_refl _))⟩
        · go_simp
          have hb1 := (Below.refl _ y9.drew).alloc (Nat.le_refl _) (.cells #[.int .i64 0, .int .i64 0, .bool false, .bool false] 32)
          have h1 := hd.on hb1
          have m1 : BlkIs _ y9.heap.size _ _ := BlkIs.new y9.drew #[.int .i64 0, .int .i64 0, .bool false, .bool false] 32
          have hc1 := hcd.trans (Chg.of_below (S := fun k => K0 k ∨ w.heap.size ≤ k) hb1 (Nat.le_refl _))
          have hwy : w.heap.size ≤ y9.heap.size := hcd.size
          have hnf := h1.not_foot m1 (by decide) (by decide) (by decide) (by decide)
          refine hK.out _ _ (HSof.out _ h1) (fun hS => ?_)
          clear hK K
          try simp only [Act.put, List.setIfInBounds_toArray, List.set_cons_zero, List.set_cons_succ]
          refine wpAnyH_ready (rs := [8]) (by kernel_rfl) (by simp) ?_
          refine AllReadyH.cons (o := _) rfl (fun K hK => ?_) AllReadyH.nil
          go_simp
          refine (M10 _ h1.ar).mono ?_
          rintro e v ⟨rfl, hb⟩
          have hv := h1.on hb
          have mv := m1.more hb (Nat.le_refl _)
          have hcv := hc1.trans (Chg.of_below (S := fun k => K0 k ∨ w.heap.size ≤ k) hb (Nat.le_refl _))
          refine hK.out _ _ (HSof.out _ hv) (fun hS => ?_)
          clear hK K
          try simp only [Act.put, List.setIfInBounds_toArray, List.set_cons_zero, List.set_cons_succ]
          first
          | (refine wpAnyH_take (i := 9) (v := ?_) rfl (by kernel_rfl) (by kernel_rfl) (by kernel_rfl) (fun _ _ _ h => h) (Or.inl ⟨by rfl, ?_⟩) hS ?_; rotate_left; (· (intro y hy; (try dsimp only at hy); go_simp; try with_reducible rfl)); try simp only [Act.put, List.setIfInBounds_toArray, List.set_cons_zero, List.set_cons_succ, List.getElem_toArray, List.getElem_cons_zero, List.getElem_cons_succ])
          | (refine wpAnyH_take (i := 9) (v := undef) rfl (by kernel_rfl) (by kernel_rfl) (by kernel_rfl) (fun _ _ _ h => h) (Or.inr ⟨by rfl, rfl⟩) hS ?_; try simp only [Act.put, List.setIfInBounds_toArray, List.set_cons_zero, List.set_cons_succ, List.getElem_toArray, List.getElem_cons_zero, List.getElem_cons_succ])
          first
          | (refine wpAnyH_take (i := 10) (v := ?_) rfl (by kernel_rfl) (by kernel_rfl) (by kernel_rfl) (fun _ _ _ h => h) (Or.inl ⟨by rfl, ?_⟩) hS ?_; rotate_left; (· (intro y hy; (try dsimp only at hy); go_simp; try with_reducible rfl)); try simp only [Act.put, List.setIfInBounds_toArray, List.set_cons_zero, List.set_cons_succ, List.getElem_toArray, List.getElem_cons_zero, List.getElem_cons_succ])
          | (refine wpAnyH_take (i := 10) (v := undef) rfl (by kernel_rfl) (by kernel_rfl) (by kernel_rfl) (fun _ _ _ h => h) (Or.inr ⟨by rfl, rfl⟩) hS ?_; try simp only [Act.put, List.setIfInBounds_toArray, List.set_cons_zero, List.set_cons_succ, List.getElem_toArray, List.getElem_cons_zero, List.getElem_cons_succ])
          first
          | (refine wpAnyH_take (i := 11) (v := ?_) rfl (by kernel_rfl) (by kernel_rfl) (by kernel_rfl) (fun _ _ _ h => h) (Or.inl ⟨by rfl, ?_⟩) hS ?_; rotate_left; (· (intro y hy; (try dsimp only at hy); go_simp; try with_reducible rfl)); try simp only [Act.put, List.setIfInBounds_toArray, List.set_cons_zero, List.set_cons_succ, List.getElem_toArray, List.getElem_cons_zero, List.getElem_cons_succ])
          | (refine wpAnyH_take (i := 11) (v := undef) rfl (by kernel_rfl) (by kernel_rfl) (by kernel_rfl) (fun _ _ _ h => h) (Or.inr ⟨by rfl, rfl⟩) hS ?_; try simp only [Act.put, List.setIfInBounds_toArray, List.set_cons_zero, List.set_cons_succ, List.getElem_toArray, List.getElem_cons_zero, List.getElem_cons_succ])
          first
          | (refine wpAnyH_take (i := 12) (v := ?_) rfl (by kernel_rfl) (by kernel_rfl) (by kernel_rfl) (fun _ _ _ h => h) (Or.inl ⟨by rfl, ?_⟩) hS ?_; rotate_left; (· (intro y hy; (try dsimp only at hy); go_simp; try with_reducible rfl)); try simp only [Act.put, List.setIfInBounds_toArray, List.set_cons_zero, List.set_cons_succ, List.getElem_toArray, List.getElem_cons_zero, List.getElem_cons_succ])
          | (refine wpAnyH_take (i := 12) (v := undef) rfl (by kernel_rfl) (by kernel_rfl) (by kernel_rfl) (fun _ _ _ h => h) (Or.inr ⟨by rfl, rfl⟩) hS ?_; try simp only [Act.put, List.setIfInBounds_toArray, List.set_cons_zero, List.set_cons_succ, List.getElem_toArray, List.getElem_cons_zero, List.getElem_cons_succ])
          obtain ⟨⟨d0, d1, d2, d3⟩, g0, g1', g2, g3, _⟩ := BlkIs.facts4 mv
          refine wpAnyH_ready (rs := [14]) (by kernel_rfl) (by simp) ?_
          refine AllReadyH.cons (o := _) rfl (fun K hK => ?_) AllReadyH.nil
          go_simp
          have hcs : Chg (· = y9.heap.size) v _ := ((((Chg.refl (· = y9.heap.size) v).setCell (p := ⟨y9.heap.size, 0, none⟩) (.inl rfl) (.int .i64 tp)).setCell (p := ⟨y9.heap.size, 1, none⟩) (.inl rfl) (.int .i64 td)).setCell (p := ⟨y9.heap.size, 2, none⟩) (.inl rfl) (.bool tw)).setCell (p := ⟨y9.heap.size, 3, none⟩) (.inl rfl) (.bool tf)
          have hv3 := hv.chg hcs fun k hk e => hnf (by subst e; exact hk)
          have m3 : BlkIs _ y9.heap.size #[.int .i64 tp, .int .i64 td, .bool tw, .bool tf] _ := (((mv.set 0 (.int .i64 tp)).set 1 (.int .i64 td)).set 2 (.bool tw)).set 3 (.bool tf)
          have hc3 := hcv.trans (hcs.mono (T := fun k => K0 k ∨ w.heap.size ≤ k) fun k e => .inr (by omega))
          refine hK.out _ _ (HSof.out _ hv3) (fun hS => ?_)
          clear hK K
          try simp only [Act.put, List.setIfInBounds_toArray, List.set_cons_zero, List.set_cons_succ]
          first
          | (refine wpAnyH_take (i := 15) (v := ?_) rfl (by kernel_rfl) (by kernel_rfl) (by kernel_rfl) (fun _ _ _ h => h) (Or.inl ⟨by rfl, ?_⟩) hS ?_; rotate_left; (· (intro y hy; (try dsimp only at hy); go_simp; try with_reducible rfl)); try simp only [Act.put, List.setIfInBounds_toArray, List.set_cons_zero, List.set_cons_succ, List.getElem_toArray, List.getElem_cons_zero, List.getElem_cons_succ])
          | (refine wpAnyH_take (i := 15) (v := undef) rfl (by kernel_rfl) (by kernel_rfl) (by kernel_rfl) (fun _ _ _ h => h) (Or.inr ⟨by rfl, rfl⟩) hS ?_; try simp only [Act.put, List.setIfInBounds_toArray, List.set_cons_zero, List.set_cons_succ, List.getElem_toArray, List.getElem_cons_zero, List.getElem_cons_succ])
          first
          | (refine wpAnyH_take (i := 16) (v := ?_) rfl (by kernel_rfl) (by kernel_rfl) (by kernel_rfl) (fun _ _ _ h => h) (Or.inl ⟨by rfl, ?_⟩) hS ?_; rotate_left; (· (intro y hy; (try dsimp only at hy); go_simp; try with_reducible rfl)); try simp only [Act.put, List.setIfInBounds_toArray, List.set_cons_zero, List.set_cons_succ, List.getElem_toArray, List.getElem_cons_zero, List.getElem_cons_succ])
          | (refine wpAnyH_take (i := 16) (v := undef) rfl (by kernel_rfl) (by kernel_rfl) (by kernel_rfl) (fun _ _ _ h => h) (Or.inr ⟨by rfl, rfl⟩) hS ?_; try simp only [Act.put, List.setIfInBounds_toArray, List.set_cons_zero, List.set_cons_succ, List.getElem_toArray, List.getElem_cons_zero, List.getElem_cons_succ])
          refine wpAnyH_done (by kernel_rfl) ?_ _
          refine NoPanic.normal ?_
          go_wp2_with fail
          go_meet
          exact ⟨_, rfl, m3, hv3, hc3⟩
      case rest =>
        obtain ⟨m, rfl, hm3, h10, hc10⟩ := hcut
        clear h9 hc9 M10
        obtain ⟨⟨d0, d1, d2, d3⟩, _⟩ := BlkIs.facts4 hm3
        have c12 : wc.cell? ⟨H, 12, none⟩ = some (.int .i64 s.sc) := by rw [← hsc9]; exact h10.blk.cell 12
        go_wp2_with fail
        refine (MT _).mono ?_
        rintro e z ⟨rfl, hb⟩
        have h11 := h10.on hb
        have hc11 := hc10.trans (Chg.of_below (S := fun k => K0 k ∨ w.heap.size ≤ k) hb (Nat.le_refl _))
        clear h10 hc10 hb MT c12 d0 d1 d2 d3
        have c12 : z.cell? ⟨H, 12, none⟩ = some (.int .i64 s.sc) := by rw [← hsc9]; exact h11.blk.cell 12
        have f12 := h11.blk.free 12
        go_wp2
        go_ret
        have hcs := (Chg.refl (· = H) z).setCell (p := ⟨H, 12, none⟩) (.inl rfl) (.int .i64 nsc)
        have hfin : HeapIn (z.setCell ⟨H, 12, none⟩ (.int .i64 nsc)) H P' b' x0 x1 x2 x3 { s2 with sc := nsc } := h11.cells hcs rfl (four rfl rfl rfl rfl) (h11.blk.set 12 _)
        rw [hrows nsc] at hfin
        have es : s' = { s1 with l := l2, sc := nsc } := by rw [Hsc.out, ← Hnsc.out, ← Hsz.out, ← Hl2.out, ← Hvs.out, ← Hs1.out]
        rw [es]
        refine ⟨rfl, Kr, ⟨P', b', x0, x1, x2, x3, hfin, hF1⟩, hKr.out, ?_⟩
        have hcf : Chg (fun k => K0 k ∨ w.heap.size ≤ k) w (z.setCell ⟨H, 12, none⟩ (.int .i64 nsc)) := hc11.trans (hcs.mono fun k e => by subst e; exact hKr.out _ (hF1 _ (.inl rfl)))
        exact (Chg.refl K0 w).step hcf fun k e => e
end

end Go.Proofs.Ytoohnnkhklifdaa

namespace Go.Proofs.Ytoohnnkhklifdaa
open Go.ChangeShapes Go.WideShapes Go.ChangeAt Go.RowKit

set_option linter.unusedSimpArgs false
set_option linter.unusedVariables false

theorem newH_small (z : Int) (hz : z < 16) (hz0 : -9223372036854775808 ≤ z) (w : World) :
    Calls Try.prog 5 #[.int .i64 z] w fun e w' => e = .returned (.tuple #[.pointer none, .int .i64 1]) ∧ Below w.heap.size w w' := by
  have d0 : decide (z < 16) = true := decide_eq_true hz
  go_enter Try.func5, Try.ntmps5
  go_wp2
  go_ret2
  exact ⟨rfl, Below.refl _ _⟩

set_option maxHeartbeats 2000000 in
theorem newH_yes (z : Nat) (h0 : 16 ≤ z) (h1 : z ≤ 16384) (w : World) :
    Calls Try.prog 5 #[.int .i64 z] w fun e w' => ∃ H, e = .returned (.tuple #[.pointer (some ⟨H, 0, none⟩), .int .i64 0]) ∧ HeapAt w' (fun k => w.heap.size ≤ k ∧ k < w'.heap.size) H (Hp.new z) ∧ Below w.heap.size w w' := by
  have d0 : decide ((z : Int) < 16) = false := decide_eq_false (by omega)
  have d1 : decide ((16384 : Int) < (z : Int)) = false := decide_eq_false (by omega)
  have i0 : IntKind.i64.wrap (2 * (z : Int)) = 2 * (z : Int) := IntWalk.i64_in _ (by omega)
  have i1 : IntKind.i64.wrap (2 * (z : Int) + 1) = ((2 * z + 1 : Nat) : Int) := by rw [IntWalk.i64_in _ (by omega)]; omega
  have i2 : IntKind.i64.wrap (1 + (z : Int)) = ((1 + z : Nat) : Int) := by rw [IntWalk.i64_in _ (by omega)]; omega
  have MA := new_any (2 * z + 1 : Nat) w (by omega) (by omega)
  have M1 : ∀ w, Calls Try.prog 17 #[.int .i64 1, .int .i64 z] w fun e w' => e = .returned (.tuple #[spV 1 z 1, .bool true]) ∧ Below w.heap.size w w' := fun w => make_ok 1 z ⟨by omega, by omega, by omega, by omega⟩ w
  have M2 := make_ok (1 + z) z ⟨by omega, by omega, by omega, by omega⟩
  obtain ⟨zz, hzz⟩ : ∃ zz, 2 * z + 1 = zz := ⟨_, rfl⟩
  rw [hzz] at i1 MA
  obtain ⟨z1, hz1⟩ : ∃ z1, 1 + z = z1 := ⟨_, rfl⟩
  rw [hz1] at i2 M2
  go_enter Try.func5, Try.ntmps5
  go_wp2_with fail
  refine MA.mono ?_
  rintro e x ⟨P, b, rfl, hA, hP, hb, hB⟩
  go_wp2_with fail
  refine (M1 _).mono ?_
  rintro e x1 ⟨rfl, hb1⟩
  have hA1 := hA.below hb1 hA.lt.1 hA.lt.2
  replace hB := hB.trans (hb1.mono hB.size)
  clear hb1 hA x
  go_wp2_with fail
  have hb2 := (Below.refl _ x1).alloc (Nat.le_refl _) (.cells #[.int .i64 1, .int .i64 z, .int .i64 1] 47)
  have k1 := BlkIs.new x1 #[.int .i64 1, .int .i64 z, .int .i64 1] 47
  replace hA1 := hA1.below hb2 hA1.lt.1 hA1.lt.2
  replace hB := hB.trans (hb2.mono hB.size)
  obtain ⟨q, hq⟩ : ∃ q, x1.heap.size = q := ⟨_, rfl⟩
  rw [hq] at k1
  have Hq := Lib.hid hq
  refine (M2 _).mono ?_
  rintro e x2 ⟨rfl, hb3⟩
  have hA2 := hA1.below hb3 hA1.lt.1 hA1.lt.2
  replace k1 := k1.more hb3 (Nat.le_refl _)
  replace hB := hB.trans (hb3.mono hB.size)
  have hw2 : w.heap.size ≤ x2.heap.size := hB.size
  have hPl := hA2.lt
  clear hb3 hb2 hA1
  obtain ⟨⟨c0, c1, c2⟩, -⟩ := blk3 k1
  have hql := k1.lt
  rw [hq]
  clear hq
  go_wp2_with fail
  go_ret2
  obtain ⟨X, hX⟩ : ∃ X, (x2.alloc (.cells #[.int .i64 z1, .int .i64 z, .int .i64 z1] 47)).alloc (.cells #[.pointer (some ⟨P, 0, none⟩), .int .i64 1, .int .i64 z, .int .i64 1, .int .i64 z1, .int .i64 z, .int .i64 z1, .slice none 0 0, .slice none 0 0, .int .i64 0, .bool false, .int .i64 0, .int .i64 0, .int .i64 0, .slice none 0 0, .slice none 0 0] 53) = X := ⟨_, rfl⟩
  obtain ⟨-, kH, hb4⟩ := two_new x2 #[.int .i64 z1, .int .i64 z, .int .i64 z1] #[.pointer (some ⟨P, 0, none⟩), .int .i64 1, .int .i64 z, .int .i64 1, .int .i64 z1, .int .i64 z, .int .i64 z1, .slice none 0 0, .slice none 0 0, .int .i64 0, .bool false, .int .i64 0, .int .i64 0, .int .i64 0, .slice none 0 0, .slice none 0 0] 47 53
  rw [hX] at kH hb4
  have hA4 := hA2.below hb4 hA2.lt.1 hA2.lt.2
  have hB4 := hB.trans (hb4.mono hw2)
  have hs4 := hb4.size
  refine ⟨x2.heap.size + 1, rfl, ⟨P, b, .slice none 0 0, .slice none 0 0, .slice none 0 0, .slice none 0 0, ⟨?_, ?_, World.ownsRow_nil _ _ _ _, World.ownsRow_nil _ _ _ _, World.ownsRow_nil _ _ _ _, World.ownsRow_nil _ _ _ _, fun g => ⟨fun e => by simp [Value.ownBlock] at e, fun e => by simp [Value.ownBlock] at e, fun e => by simp [Value.ownBlock] at e⟩⟩, fun k hk => ?_⟩, ?_⟩
  · rw [hX]
    subst hz1
    exact kH
  · rw [hX]
    subst hzz
    exact hA4
  · have := kH.lt
    rw [hX]
    rcases hk with rfl | rfl | rfl | e | e | e | e
    · exact ⟨by omega, by omega⟩
    · exact ⟨by omega, by omega⟩
    · exact ⟨by omega, by omega⟩
    all_goals simp [Value.ownBlock] at e
  · rw [hX]; exact hB4

section
variable {w : World} {H P b : Nat} {v0 v1 v2 v3 : Value} {s : Hp} {K : Nat → Prop}

theorem flip_rows (hu : s.u = 0 ∨ s.u = 1) : ∀ j, j < 4 → s.flip.rows j = s.rows j := by
  rcases s with ⟨l, z, u, mv, pn, pk, tn, tk, ow, sc, se, wk, fi⟩
  rcases hu with hu | hu <;> (simp only at hu; subst hu; exact four rfl rfl rfl rfl)
theorem flip_blk (hu : s.u = 0 ∨ s.u = 1) : hpC P (s.base 0) s.z (s.top 0) (s.base 1) (s.top 1) v0 v1 (1 - s.u) true (s.tn - s.bn) s.bk s.se v2 v3 =
    hpC P (s.flip.base 0) s.flip.z (s.flip.top 0) (s.flip.base 1) (s.flip.top 1) v0 v1 s.flip.u s.flip.mv s.flip.ow s.flip.sc s.flip.se v2 v3 := by
  rcases s with ⟨l, z, u, mv, pn, pk, tn, tk, ow, sc, se, wk, fi⟩
  rcases hu with hu | hu <;> (simp only at hu; subst hu; rfl)

theorem flipH_no (h : HeapIn w H P b v0 v1 v2 v3 s) (hm : s.mv = true) :
    Calls Try.prog 9 #[.pointer (some ⟨H, 0, none⟩)] w fun e w' => e = .returned (.bool false) ∧ Below w.heap.size w w' := by
  have c0 : w.cell? ⟨H, 10, none⟩ = some (.bool true) := by rw [← hm]; exact h.blk.cell 10
  clear h
  go_enter Try.func9, Try.ntmps9
  go_wp2
  go_ret
  exact ⟨rfl, Below.refl _ _⟩

set_option maxRecDepth 100000 in
set_option maxHeartbeats 4000000 in
theorem flipH_yes (h : HeapIn w H P b v0 v1 v2 v3 s) (hF : ∀ k, Foot H P b v0 v1 v2 v3 k → K k) (g : Sound s) (hm : s.mv = false) :
    Calls Try.prog 9 #[.pointer (some ⟨H, 0, none⟩)] w fun e w' => e = .returned (.bool true) ∧ Went w K H s.flip w' := by
  have c10 : w.cell? ⟨H, 10, none⟩ = some (.bool false) := by rw [← hm]; exact h.blk.cell 10
  have f10 := h.blk.free 10
  have hl := h.blk.lt
  have g0 := g.t0
  have g1 := g.t1
  have gz := g.z1
  have hbn : s.bn ≤ 16385 := by have := g.z1; unfold Hp.bn Hp.base; split <;> omega
  have U1 := used_ok s.bn s.z s.tn ⟨by omega, by omega, by omega, by omega⟩
  go_enter Try.func9, Try.ntmps9
  go_upto_region 4 with fail
  have hcs := (Chg.refl (· = H) w).setCell (p := ⟨H, 10, none⟩) (.inl rfl) (.bool true)
  have h1 : HeapIn (w.setCell ⟨H, 10, none⟩ (.bool true)) H P b v0 v1 v2 v3 { s with mv := true } := h.cells hcs rfl (four rfl rfl rfl rfl) (h.blk.set 10 _)
  generalize w.setCell ⟨H, 10, none⟩ (.bool true) = x at *
  clear c10 f10 h
  rcases h1.inuse g.u01 with ⟨hu, c9, cB, cZ, cT⟩ | ⟨hu, c9, cB, cZ, cT⟩
  · replace hu : s.u = 0 := hu
    replace cB : x.cell? ⟨H, 1, none⟩ = some (.int .i64 s.bn) := cB
    replace cT : x.cell? ⟨H, 3, none⟩ = some (.int .i64 s.tn) := cT
    replace cZ : x.cell? ⟨H, 2, none⟩ = some (.int .i64 s.z) := cZ
    refine wp_region_noPanic ?_
    refine wp_region_held_drew (S := fun y => y.cell? ⟨H, 9, none⟩ = some (.int .i64 0) ∧ y.cell? ⟨H, 1, none⟩ = some (.int .i64 s.bn) ∧ y.cell? ⟨H, 2, none⟩ = some (.int .i64 s.z) ∧ y.cell? ⟨H, 3, none⟩ = some (.int .i64 s.tn)) (by kernel_rfl) ⟨c9, cB, cZ, cT⟩ (fun hS => ?_)
    have hd : HeapIn x.drew H P b v0 v1 v2 v3 { s with mv := true } := h1.on (Below.refl _ x).drew
    have hcd := hcs.drew
    first
    | (refine wpAnyH_take (i := 0) (v := ?_) rfl (by kernel_rfl) (by kernel_rfl) (by kernel_rfl) (fun _ _ _ h => h) (Or.inl ⟨by rfl, ?_⟩) hS ?_; rotate_left; (· (intro y hy; (try dsimp only at hy); go_simp; try with_reducible rfl)); try simp only [Act.put, List.setIfInBounds_toArray, List.set_cons_zero, List.set_cons_succ, List.getElem_toArray, List.getElem_cons_zero, List.getElem_cons_succ])
    | (refine wpAnyH_take (i := 0) (v := undef) rfl (by kernel_rfl) (by kernel_rfl) (by kernel_rfl) (fun _ _ _ h => h) (Or.inr ⟨by rfl, rfl⟩) hS ?_; try simp only [Act.put, List.setIfInBounds_toArray, List.set_cons_zero, List.set_cons_succ, List.getElem_toArray, List.getElem_cons_zero, List.getElem_cons_succ])
    first
    | (refine wpAnyH_take (i := 1) (v := ?_) rfl (by kernel_rfl) (by kernel_rfl) (by kernel_rfl) (fun _ _ _ h => h) (Or.inl ⟨by rfl, ?_⟩) hS ?_; rotate_left; (· (intro y hy; (try dsimp only at hy); go_simp; try with_reducible rfl)); try simp only [Act.put, List.setIfInBounds_toArray, List.set_cons_zero, List.set_cons_succ, List.getElem_toArray, List.getElem_cons_zero, List.getElem_cons_succ])
    | (refine wpAnyH_take (i := 1) (v := undef) rfl (by kernel_rfl) (by kernel_rfl) (by kernel_rfl) (fun _ _ _ h => h) (Or.inr ⟨by rfl, rfl⟩) hS ?_; try simp only [Act.put, List.setIfInBounds_toArray, List.set_cons_zero, List.set_cons_succ, List.getElem_toArray, List.getElem_cons_zero, List.getElem_cons_succ])
    first
    | (refine wpAnyH_take (i := 2) (v := ?_) rfl (by kernel_rfl) (by kernel_rfl) (by kernel_rfl) (fun _ _ _ h => h) (Or.inl ⟨by rfl, ?_⟩) hS ?_; rotate_left; (· (intro y hy; (try dsimp only at hy); go_simp; try with_reducible rfl)); try simp only [Act.put, List.setIfInBounds_toArray, List.set_cons_zero, List.set_cons_succ, List.getElem_toArray, List.getElem_cons_zero, List.getElem_cons_succ])
    | (refine wpAnyH_take (i := 2) (v := undef) rfl (by kernel_rfl) (by kernel_rfl) (by kernel_rfl) (fun _ _ _ h => h) (Or.inr ⟨by rfl, rfl⟩) hS ?_; try simp only [Act.put, List.setIfInBounds_toArray, List.set_cons_zero, List.set_cons_succ, List.getElem_toArray, List.getElem_cons_zero, List.getElem_cons_succ])
    first
    | (refine wpAnyH_take (i := 3) (v := ?_) rfl (by kernel_rfl) (by kernel_rfl) (by kernel_rfl) (fun _ _ _ h => h) (Or.inl ⟨by rfl, ?_⟩) hS ?_; rotate_left; (· (intro y hy; (try dsimp only at hy); go_simp; try with_reducible rfl)); try simp only [Act.put, List.setIfInBounds_toArray, List.set_cons_zero, List.set_cons_succ, List.getElem_toArray, List.getElem_cons_zero, List.getElem_cons_succ])
    | (refine wpAnyH_take (i := 3) (v := undef) rfl (by kernel_rfl) (by kernel_rfl) (by kernel_rfl) (fun _ _ _ h => h) (Or.inr ⟨by rfl, rfl⟩) hS ?_; try simp only [Act.put, List.setIfInBounds_toArray, List.set_cons_zero, List.set_cons_succ, List.getElem_toArray, List.getElem_cons_zero, List.getElem_cons_succ])
    first
    | (refine wpAnyH_take (i := 4) (v := ?_) rfl (by kernel_rfl) (by kernel_rfl) (by kernel_rfl) (fun _ _ _ h => h) (Or.inl ⟨by rfl, ?_⟩) hS ?_; rotate_left; (· (intro y hy; (try dsimp only at hy); go_simp; try with_reducible rfl)); try simp only [Act.put, List.setIfInBounds_toArray, List.set_cons_zero, List.set_cons_succ, List.getElem_toArray, List.getElem_cons_zero, List.getElem_cons_succ])
    | (refine wpAnyH_take (i := 4) (v := undef) rfl (by kernel_rfl) (by kernel_rfl) (by kernel_rfl) (fun _ _ _ h => h) (Or.inr ⟨by rfl, rfl⟩) hS ?_; try simp only [Act.put, List.setIfInBounds_toArray, List.set_cons_zero, List.set_cons_succ, List.getElem_toArray, List.getElem_cons_zero, List.getElem_cons_succ])
    first
    | (refine wpAnyH_take (i := 5) (v := ?_) rfl (by kernel_rfl) (by kernel_rfl) (by kernel_rfl) (fun _ _ _ h => h) (Or.inl ⟨by rfl, ?_⟩) hS ?_; rotate_left; (· (intro y hy; (try dsimp only at hy); go_simp; try with_reducible rfl)); try simp only [Act.put, List.setIfInBounds_toArray, List.set_cons_zero, List.set_cons_succ, List.getElem_toArray, List.getElem_cons_zero, List.getElem_cons_succ])
    | (refine wpAnyH_take (i := 5) (v := undef) rfl (by kernel_rfl) (by kernel_rfl) (by kernel_rfl) (fun _ _ _ h => h) (Or.inr ⟨by rfl, rfl⟩) hS ?_; try simp only [Act.put, List.setIfInBounds_toArray, List.set_cons_zero, List.set_cons_succ, List.getElem_toArray, List.getElem_cons_zero, List.getElem_cons_succ])
    first
    | (refine wpAnyH_take (i := 6) (v := ?_) rfl (by kernel_rfl) (by kernel_rfl) (by kernel_rfl) (fun _ _ _ h => h) (Or.inl ⟨by rfl, ?_⟩) hS ?_; rotate_left; (· (intro y hy; (try dsimp only at hy); go_simp; try with_reducible rfl)); try simp only [Act.put, List.setIfInBounds_toArray, List.set_cons_zero, List.set_cons_succ, List.getElem_toArray, List.getElem_cons_zero, List.getElem_cons_succ])
    | (refine wpAnyH_take (i := 6) (v := undef) rfl (by kernel_rfl) (by kernel_rfl) (by kernel_rfl) (fun _ _ _ h => h) (Or.inr ⟨by rfl, rfl⟩) hS ?_; try simp only [Act.put, List.setIfInBounds_toArray, List.set_cons_zero, List.set_cons_succ, List.getElem_toArray, List.getElem_cons_zero, List.getElem_cons_succ])
    first
    | (refine wpAnyH_take (i := 7) (v := ?_) rfl (by kernel_rfl) (by kernel_rfl) (by kernel_rfl) (fun _ _ _ h => h) (Or.inl ⟨by rfl, ?_⟩) hS ?_; rotate_left; (· (intro y hy; (try dsimp only at hy); go_simp; try with_reducible rfl)); try simp only [Act.put, List.setIfInBounds_toArray, List.set_cons_zero, List.set_cons_succ, List.getElem_toArray, List.getElem_cons_zero, List.getElem_cons_succ])
    | (refine wpAnyH_take (i := 7) (v := undef) rfl (by kernel_rfl) (by kernel_rfl) (by kernel_rfl) (fun _ _ _ h => h) (Or.inr ⟨by rfl, rfl⟩) hS ?_; try simp only [Act.put, List.setIfInBounds_toArray, List.set_cons_zero, List.set_cons_succ, List.getElem_toArray, List.getElem_cons_zero, List.getElem_cons_succ])
    first
    | (refine wpAnyH_take (i := 8) (v := ?_) rfl (by kernel_rfl) (by kernel_rfl) (by kernel_rfl) (fun _ _ _ h => h) (Or.inl ⟨by rfl, ?_⟩) hS ?_; rotate_left; (· (intro y hy; (try dsimp only at hy); go_simp; try with_reducible rfl)); try simp only [Act.put, List.setIfInBounds_toArray, List.set_cons_zero, List.set_cons_succ, List.getElem_toArray, List.getElem_cons_zero, List.getElem_cons_succ])
    | (refine wpAnyH_take (i := 8) (v := undef) rfl (by kernel_rfl) (by kernel_rfl) (by kernel_rfl) (fun _ _ _ h => h) (Or.inr ⟨by rfl, rfl⟩) hS ?_; try simp only [Act.put, List.setIfInBounds_toArray, List.set_cons_zero, List.set_cons_succ, List.getElem_toArray, List.getElem_cons_zero, List.getElem_cons_succ])
    first
    | (refine wpAnyH_take (i := 9) (v := ?_) rfl (by kernel_rfl) (by kernel_rfl) (by kernel_rfl) (fun _ _ _ h => h) (Or.inl ⟨by rfl, ?_⟩) hS ?_; rotate_left; (· (intro y hy; (try dsimp only at hy); go_simp; try with_reducible rfl)); try simp only [Act.put, List.setIfInBounds_toArray, List.set_cons_zero, List.set_cons_succ, List.getElem_toArray, List.getElem_cons_zero, List.getElem_cons_succ])
    | (refine wpAnyH_take (i := 9) (v := undef) rfl (by kernel_rfl) (by kernel_rfl) (by kernel_rfl) (fun _ _ _ h => h) (Or.inr ⟨by rfl, rfl⟩) hS ?_; try simp only [Act.put, List.setIfInBounds_toArray, List.set_cons_zero, List.set_cons_succ, List.getElem_toArray, List.getElem_cons_zero, List.getElem_cons_succ])
    refine wpAnyH_ready (rs := [10]) (by kernel_rfl) (by simp) ?_
    refine AllReadyH.cons (o := _) rfl (fun K hK => ?_) AllReadyH.nil
    go_simp
    refine (U1 _).mono ?_
    rintro e y ⟨rfl, hb⟩
    replace hd := hd.on hb
    replace hcd := hcd.trans (Chg.of_below hb (Nat.le_refl _))
    have hSy := fun j => hb.cell (p := ⟨H, j, none⟩) (show H < x.drew.heap.size from h1.blk.lt)
    refine hK.out _ _ (⟨(hSy 9).trans hS.1, (hSy 1).trans hS.2.1, (hSy 2).trans hS.2.2.1, (hSy 3).trans hS.2.2.2⟩) (fun hS => ?_)
    clear hK K
    try simp only [Act.put, List.setIfInBounds_toArray, List.set_cons_zero, List.set_cons_succ]
    clear hSy
    first
    | (refine wpAnyH_take (i := 11) (v := ?_) rfl (by kernel_rfl) (by kernel_rfl) (by kernel_rfl) (fun _ _ _ h => h) (Or.inl ⟨by rfl, ?_⟩) hS ?_; rotate_left; (· (intro y hy; (try dsimp only at hy); go_simp; try with_reducible rfl)); try simp only [Act.put, List.setIfInBounds_toArray, List.set_cons_zero, List.set_cons_succ, List.getElem_toArray, List.getElem_cons_zero, List.getElem_cons_succ])
    | (refine wpAnyH_take (i := 11) (v := undef) rfl (by kernel_rfl) (by kernel_rfl) (by kernel_rfl) (fun _ _ _ h => h) (Or.inr ⟨by rfl, rfl⟩) hS ?_; try simp only [Act.put, List.setIfInBounds_toArray, List.set_cons_zero, List.set_cons_succ, List.getElem_toArray, List.getElem_cons_zero, List.getElem_cons_succ])
    first
    | (refine wpAnyH_take (i := 12) (v := ?_) rfl (by kernel_rfl) (by kernel_rfl) (by kernel_rfl) (fun _ _ _ h => h) (Or.inl ⟨by rfl, ?_⟩) hS ?_; rotate_left; (· (intro y hy; (try dsimp only at hy); go_simp; try with_reducible rfl)); try simp only [Act.put, List.setIfInBounds_toArray, List.set_cons_zero, List.set_cons_succ, List.getElem_toArray, List.getElem_cons_zero, List.getElem_cons_succ])
    | (refine wpAnyH_take (i := 12) (v := undef) rfl (by kernel_rfl) (by kernel_rfl) (by kernel_rfl) (fun _ _ _ h => h) (Or.inr ⟨by rfl, rfl⟩) hS ?_; try simp only [Act.put, List.setIfInBounds_toArray, List.set_cons_zero, List.set_cons_succ, List.getElem_toArray, List.getElem_cons_zero, List.getElem_cons_succ])
    refine wpAnyH_ready (rs := [13]) (by kernel_rfl) (by simp) ?_
    refine AllReadyH.cons (o := _) rfl (fun K hK => ?_) AllReadyH.nil
    have f11 := hd.blk.free 11
    have c11 : y.cell? ⟨H, 11, none⟩ = some (.int .i64 s.ow) := hd.blk.cell 11
    go_simp
    have hcs2 := (Chg.refl (· = H) y).setCell (p := ⟨H, 11, none⟩) (.inl rfl) (.int .i64 ((s.tn - s.bn : Nat) : Int))
    have h2 : HeapIn (y.setCell ⟨H, 11, none⟩ (.int .i64 ((s.tn - s.bn : Nat) : Int))) H P b v0 v1 v2 v3 { s with mv := true, ow := s.tn - s.bn } := hd.cells hcs2 rfl (four rfl rfl rfl rfl) (hd.blk.set 11 _)
    have hc2 := hcd.trans hcs2
    have hS2 := (h2.inuse g.u01).resolve_right fun e => absurd (e.1.symm.trans hu) (by decide)
    clear f11 c11 hcs2
    obtain ⟨_, d9, dB, dZ, dT⟩ := hS2
    refine hK.out _ _ (⟨d9, dB, dZ, dT⟩) (fun hS => ?_)
    clear hK K
    try simp only [Act.put, List.setIfInBounds_toArray, List.set_cons_zero, List.set_cons_succ]
    refine wpAnyH_done (by kernel_rfl) ?_ _
    refine NoPanic.normal ?_
    generalize y.setCell ⟨H, 11, none⟩ (.int .i64 ((s.tn - s.bn : Nat) : Int)) = z at *
    have M1 : Calls Try.prog 25 #[.pointer (some ⟨H, 0, none⟩)] z fun e w' => e = .returned (.int .i64 1) ∧ Below z.heap.size z w' := by
      have M := old_any h2 g.u01
      rw [show ({ s with mv := true, ow := s.tn - s.bn } : Hp).u = 0 from hu] at M
      exact M
    clear hd hcd hS cB cT cZ hb h1 hcs
    go_wp2_with fail
    refine M1.mono ?_
    rintro e z1 ⟨rfl, hb⟩
    replace h2 := h2.on hb
    replace hc2 := hc2.trans (Chg.of_below hb (Nat.le_refl _))
    clear hb M1 d9 dB dZ dT c9
    have c9 : z1.cell? ⟨H, 9, none⟩ = some (.int .i64 s.u) := h2.blk.cell 9
    have c4 : z1.cell? ⟨H, 4, none⟩ = some (.int .i64 (s.base 1)) := h2.blk.cell 4
    have c12 : z1.cell? ⟨H, 12, none⟩ = some (.int .i64 s.sc) := h2.blk.cell 12
    have f9 := h2.blk.free 9
    have f12 := h2.blk.free 12
    have hl2 := h2.blk.lt
    go_upto_region 6 with fail
    go_region
    have hcs3 := ((Chg.refl (· = H) z1).setCell (p := ⟨H, 9, none⟩) (.inl rfl) (.int .i64 1)).setCell (p := ⟨H, 12, none⟩) (.inl rfl) (.int .i64 (s.base 1))
    have h3 : HeapIn _ H P b v0 v1 v2 v3 s.flip := h2.cells hcs3.drew rfl (flip_rows g.u01) (by
      rw [← flip_blk g.u01, hu]
      have hk : s.bk = s.base 1 := by unfold Hp.bk; rw [hu]
      rw [hk]
      have := (h2.blk.set 9 (.int .i64 1)).set 12 (.int .i64 (s.base 1))
      exact this)
    go_wp2
    go_ret
    exact ⟨rfl, h3.wentTo hF ((hc2.trans hcs3.drew).mono fun k e => .inl e)⟩
  · replace hu : s.u = 1 := hu
    replace cB : x.cell? ⟨H, 4, none⟩ = some (.int .i64 s.bn) := cB
    replace cT : x.cell? ⟨H, 6, none⟩ = some (.int .i64 s.tn) := cT
    replace cZ : x.cell? ⟨H, 5, none⟩ = some (.int .i64 s.z) := cZ
    refine wp_region_noPanic ?_
    refine wp_region_held_drew (S := fun y => y.cell? ⟨H, 9, none⟩ = some (.int .i64 1) ∧ y.cell? ⟨H, 4, none⟩ = some (.int .i64 s.bn) ∧ y.cell? ⟨H, 5, none⟩ = some (.int .i64 s.z) ∧ y.cell? ⟨H, 6, none⟩ = some (.int .i64 s.tn)) (by kernel_rfl) ⟨c9, cB, cZ, cT⟩ (fun hS => ?_)
    have hd : HeapIn x.drew H P b v0 v1 v2 v3 { s with mv := true } := h1.on (Below.refl _ x).drew
    have hcd := hcs.drew
    first
    | (refine wpAnyH_take (i := 0) (v := ?_) rfl (by kernel_rfl) (by kernel_rfl) (by kernel_rfl) (fun _ _ _ h => h) (Or.inl ⟨by rfl, ?_⟩) hS ?_; rotate_left; (· (intro y hy; (try dsimp only at hy); go_simp; try with_reducible rfl)); try simp only [Act.put, List.setIfInBounds_toArray, List.set_cons_zero, List.set_cons_succ, List.getElem_toArray, List.getElem_cons_zero, List.getElem_cons_succ])
    | (refine wpAnyH_take (i := 0) (v := undef) rfl (by kernel_rfl) (by kernel_rfl) (by kernel_rfl) (fun _ _ _ h => h) (Or.inr ⟨by rfl, rfl⟩) hS ?_; try simp only [Act.put, List.setIfInBounds_toArray, List.set_cons_zero, List.set_cons_succ, List.getElem_toArray, List.getElem_cons_zero, List.getElem_cons_succ])
    first
    | (refine wpAnyH_take (i := 1) (v := ?_) rfl (by kernel_rfl) (by kernel_rfl) (by kernel_rfl) (fun _ _ _ h => h) (Or.inl ⟨by rfl, ?_⟩) hS ?_; rotate_left; (· (intro y hy; (try dsimp only at hy); go_simp; try with_reducible rfl)); try simp only [Act.put, List.setIfInBounds_toArray, List.set_cons_zero, List.set_cons_succ, List.getElem_toArray, List.getElem_cons_zero, List.getElem_cons_succ])
    | (refine wpAnyH_take (i := 1) (v := undef) rfl (by kernel_rfl) (by kernel_rfl) (by kernel_rfl) (fun _ _ _ h => h) (Or.inr ⟨by rfl, rfl⟩) hS ?_; try simp only [Act.put, List.setIfInBounds_toArray, List.set_cons_zero, List.set_cons_succ, List.getElem_toArray, List.getElem_cons_zero, List.getElem_cons_succ])
    first
    | (refine wpAnyH_take (i := 2) (v := ?_) rfl (by kernel_rfl) (by kernel_rfl) (by kernel_rfl) (fun _ _ _ h => h) (Or.inl ⟨by rfl, ?_⟩) hS ?_; rotate_left; (· (intro y hy; (try dsimp only at hy); go_simp; try with_reducible rfl)); try simp only [Act.put, List.setIfInBounds_toArray, List.set_cons_zero, List.set_cons_succ, List.getElem_toArray, List.getElem_cons_zero, List.getElem_cons_succ])
    | (refine wpAnyH_take (i := 2) (v := undef) rfl (by kernel_rfl) (by kernel_rfl) (by kernel_rfl) (fun _ _ _ h => h) (Or.inr ⟨by rfl, rfl⟩) hS ?_; try simp only [Act.put, List.setIfInBounds_toArray, List.set_cons_zero, List.set_cons_succ, List.getElem_toArray, List.getElem_cons_zero, List.getElem_cons_succ])
    first
    | (refine wpAnyH_take (i := 3) (v := ?_) rfl (by kernel_rfl) (by kernel_rfl) (by kernel_rfl) (fun _ _ _ h => h) (Or.inl ⟨by rfl, ?_⟩) hS ?_; rotate_left; (· (intro y hy; (try dsimp only at hy); go_simp; try with_reducible rfl)); try simp only [Act.put, List.setIfInBounds_toArray, List.set_cons_zero, List.set_cons_succ, List.getElem_toArray, List.getElem_cons_zero, List.getElem_cons_succ])
    | (refine wpAnyH_take (i := 3) (v := undef) rfl (by kernel_rfl) (by kernel_rfl) (by kernel_rfl) (fun _ _ _ h => h) (Or.inr ⟨by rfl, rfl⟩) hS ?_; try simp only [Act.put, List.setIfInBounds_toArray, List.set_cons_zero, List.set_cons_succ, List.getElem_toArray, List.getElem_cons_zero, List.getElem_cons_succ])
    first
    | (refine wpAnyH_take (i := 4) (v := ?_) rfl (by kernel_rfl) (by kernel_rfl) (by kernel_rfl) (fun _ _ _ h => h) (Or.inl ⟨by rfl, ?_⟩) hS ?_; rotate_left; (· (intro y hy; (try dsimp only at hy); go_simp; try with_reducible rfl)); try simp only [Act.put, List.setIfInBounds_toArray, List.set_cons_zero, List.set_cons_succ, List.getElem_toArray, List.getElem_cons_zero, List.getElem_cons_succ])
    | (refine wpAnyH_take (i := 4) (v := undef) rfl (by kernel_rfl) (by kernel_rfl) (by kernel_rfl) (fun _ _ _ h => h) (Or.inr ⟨by rfl, rfl⟩) hS ?_; try simp only [Act.put, List.setIfInBounds_toArray, List.set_cons_zero, List.set_cons_succ, List.getElem_toArray, List.getElem_cons_zero, List.getElem_cons_succ])
    first
    | (refine wpAnyH_take (i := 5) (v := ?_) rfl (by kernel_rfl) (by kernel_rfl) (by kernel_rfl) (fun _ _ _ h => h) (Or.inl ⟨by rfl, ?_⟩) hS ?_; rotate_left; (· (intro y hy; (try dsimp only at hy); go_simp; try with_reducible rfl)); try simp only [Act.put, List.setIfInBounds_toArray, List.set_cons_zero, List.set_cons_succ, List.getElem_toArray, List.getElem_cons_zero, List.getElem_cons_succ])
    | (refine wpAnyH_take (i := 5) (v := undef) rfl (by kernel_rfl) (by kernel_rfl) (by kernel_rfl) (fun _ _ _ h => h) (Or.inr ⟨by rfl, rfl⟩) hS ?_; try simp only [Act.put, List.setIfInBounds_toArray, List.set_cons_zero, List.set_cons_succ, List.getElem_toArray, List.getElem_cons_zero, List.getElem_cons_succ])
    first
    | (refine wpAnyH_take (i := 6) (v := ?_) rfl (by kernel_rfl) (by kernel_rfl) (by kernel_rfl) (fun _ _ _ h => h) (Or.inl ⟨by rfl, ?_⟩) hS ?_; rotate_left; (· (intro y hy; (try dsimp only at hy); go_simp; try with_reducible rfl)); try simp only [Act.put, List.setIfInBounds_toArray, List.set_cons_zero, List.set_cons_succ, List.getElem_toArray, List.getElem_cons_zero, List.getElem_cons_succ])
    | (refine wpAnyH_take (i := 6) (v := undef) rfl (by kernel_rfl) (by kernel_rfl) (by kernel_rfl) (fun _ _ _ h => h) (Or.inr ⟨by rfl, rfl⟩) hS ?_; try simp only [Act.put, List.setIfInBounds_toArray, List.set_cons_zero, List.set_cons_succ, List.getElem_toArray, List.getElem_cons_zero, List.getElem_cons_succ])
    first
    | (refine wpAnyH_take (i := 7) (v := ?_) rfl (by kernel_rfl) (by kernel_rfl) (by kernel_rfl) (fun _ _ _ h => h) (Or.inl ⟨by rfl, ?_⟩) hS ?_; rotate_left; (· (intro y hy; (try dsimp only at hy); go_simp; try with_reducible rfl)); try simp only [Act.put, List.setIfInBounds_toArray, List.set_cons_zero, List.set_cons_succ, List.getElem_toArray, List.getElem_cons_zero, List.getElem_cons_succ])
    | (refine wpAnyH_take (i := 7) (v := undef) rfl (by kernel_rfl) (by kernel_rfl) (by kernel_rfl) (fun _ _ _ h => h) (Or.inr ⟨by rfl, rfl⟩) hS ?_; try simp only [Act.put, List.setIfInBounds_toArray, List.set_cons_zero, List.set_cons_succ, List.getElem_toArray, List.getElem_cons_zero, List.getElem_cons_succ])
    first
    | (refine wpAnyH_take (i := 8) (v := ?_) rfl (by kernel_rfl) (by kernel_rfl) (by kernel_rfl) (fun _ _ _ h => h) (Or.inl ⟨by rfl, ?_⟩) hS ?_; rotate_left; (· (intro y hy; (try dsimp only at hy); go_simp; try with_reducible rfl)); try simp only [Act.put, List.setIfInBounds_toArray, List.set_cons_zero, List.set_cons_succ, List.getElem_toArray, List.getElem_cons_zero, List.getElem_cons_succ])
    | (refine wpAnyH_take (i := 8) (v := undef) rfl (by kernel_rfl) (by kernel_rfl) (by kernel_rfl) (fun _ _ _ h => h) (Or.inr ⟨by rfl, rfl⟩) hS ?_; try simp only [Act.put, List.setIfInBounds_toArray, List.set_cons_zero, List.set_cons_succ, List.getElem_toArray, List.getElem_cons_zero, List.getElem_cons_succ])
    first
    | (refine wpAnyH_take (i := 9) (v := ?_) rfl (by kernel_rfl) (by kernel_rfl) (by kernel_rfl) (fun _ _ _ h => h) (Or.inl ⟨by rfl, ?_⟩) hS ?_; rotate_left; (· (intro y hy; (try dsimp only at hy); go_simp; try with_reducible rfl)); try simp only [Act.put, List.setIfInBounds_toArray, List.set_cons_zero, List.set_cons_succ, List.getElem_toArray, List.getElem_cons_zero, List.getElem_cons_succ])
    | (refine wpAnyH_take (i := 9) (v := undef) rfl (by kernel_rfl) (by kernel_rfl) (by kernel_rfl) (fun _ _ _ h => h) (Or.inr ⟨by rfl, rfl⟩) hS ?_; try simp only [Act.put, List.setIfInBounds_toArray, List.set_cons_zero, List.set_cons_succ, List.getElem_toArray, List.getElem_cons_zero, List.getElem_cons_succ])
    refine wpAnyH_ready (rs := [10]) (by kernel_rfl) (by simp) ?_
    refine AllReadyH.cons (o := _) rfl (fun K hK => ?_) AllReadyH.nil
    go_simp
    refine (U1 _).mono ?_
    rintro e y ⟨rfl, hb⟩
    replace hd := hd.on hb
    replace hcd := hcd.trans (Chg.of_below hb (Nat.le_refl _))
    have hSy := fun j => hb.cell (p := ⟨H, j, none⟩) (show H < x.drew.heap.size from h1.blk.lt)
    refine hK.out _ _ (⟨(hSy 9).trans hS.1, (hSy 4).trans hS.2.1, (hSy 5).trans hS.2.2.1, (hSy 6).trans hS.2.2.2⟩) (fun hS => ?_)
    clear hK K
    try simp only [Act.put, List.setIfInBounds_toArray, List.set_cons_zero, List.set_cons_succ]
    clear hSy
    first
    | (refine wpAnyH_take (i := 11) (v := ?_) rfl (by kernel_rfl) (by kernel_rfl) (by kernel_rfl) (fun _ _ _ h => h) (Or.inl ⟨by rfl, ?_⟩) hS ?_; rotate_left; (· (intro y hy; (try dsimp only at hy); go_simp; try with_reducible rfl)); try simp only [Act.put, List.setIfInBounds_toArray, List.set_cons_zero, List.set_cons_succ, List.getElem_toArray, List.getElem_cons_zero, List.getElem_cons_succ])
    | (refine wpAnyH_take (i := 11) (v := undef) rfl (by kernel_rfl) (by kernel_rfl) (by kernel_rfl) (fun _ _ _ h => h) (Or.inr ⟨by rfl, rfl⟩) hS ?_; try simp only [Act.put, List.setIfInBounds_toArray, List.set_cons_zero, List.set_cons_succ, List.getElem_toArray, List.getElem_cons_zero, List.getElem_cons_succ])
    first
    | (refine wpAnyH_take (i := 12) (v := ?_) rfl (by kernel_rfl) (by kernel_rfl) (by kernel_rfl) (fun _ _ _ h => h) (Or.inl ⟨by rfl, ?_⟩) hS ?_; rotate_left; (· (intro y hy; (try dsimp only at hy); go_simp; try with_reducible rfl)); try simp only [Act.put, List.setIfInBounds_toArray, List.set_cons_zero, List.set_cons_succ, List.getElem_toArray, List.getElem_cons_zero, List.getElem_cons_succ])
    | (refine wpAnyH_take (i := 12) (v := undef) rfl (by kernel_rfl) (by kernel_rfl) (by kernel_rfl) (fun _ _ _ h => h) (Or.inr ⟨by rfl, rfl⟩) hS ?_; try simp only [Act.put, List.setIfInBounds_toArray, List.set_cons_zero, List.set_cons_succ, List.getElem_toArray, List.getElem_cons_zero, List.getElem_cons_succ])
    refine wpAnyH_ready (rs := [13]) (by kernel_rfl) (by simp) ?_
    refine AllReadyH.cons (o := _) rfl (fun K hK => ?_) AllReadyH.nil
    have f11 := hd.blk.free 11
    have c11 : y.cell? ⟨H, 11, none⟩ = some (.int .i64 s.ow) := hd.blk.cell 11
    go_simp
    have hcs2 := (Chg.refl (· = H) y).setCell (p := ⟨H, 11, none⟩) (.inl rfl) (.int .i64 ((s.tn - s.bn : Nat) : Int))
    have h2 : HeapIn (y.setCell ⟨H, 11, none⟩ (.int .i64 ((s.tn - s.bn : Nat) : Int))) H P b v0 v1 v2 v3 { s with mv := true, ow := s.tn - s.bn } := hd.cells hcs2 rfl (four rfl rfl rfl rfl) (hd.blk.set 11 _)
    have hc2 := hcd.trans hcs2
    have hS2 := (h2.inuse g.u01).resolve_left fun e => absurd (e.1.symm.trans hu) (by decide)
    clear f11 c11 hcs2
    obtain ⟨_, d9, dB, dZ, dT⟩ := hS2
    refine hK.out _ _ (⟨d9, dB, dZ, dT⟩) (fun hS => ?_)
    clear hK K
    try simp only [Act.put, List.setIfInBounds_toArray, List.set_cons_zero, List.set_cons_succ]
    refine wpAnyH_done (by kernel_rfl) ?_ _
    refine NoPanic.normal ?_
    generalize y.setCell ⟨H, 11, none⟩ (.int .i64 ((s.tn - s.bn : Nat) : Int)) = z at *
    have M1 : Calls Try.prog 25 #[.pointer (some ⟨H, 0, none⟩)] z fun e w' => e = .returned (.int .i64 0) ∧ Below z.heap.size z w' := by
      have M := old_any h2 g.u01
      rw [show ({ s with mv := true, ow := s.tn - s.bn } : Hp).u = 1 from hu] at M
      exact M
    clear hd hcd hS cB cT cZ hb h1 hcs
    go_wp2_with fail
    refine M1.mono ?_
    rintro e z1 ⟨rfl, hb⟩
    replace h2 := h2.on hb
    replace hc2 := hc2.trans (Chg.of_below hb (Nat.le_refl _))
    clear hb M1 d9 dB dZ dT c9
    have c9 : z1.cell? ⟨H, 9, none⟩ = some (.int .i64 s.u) := h2.blk.cell 9
    have c4 : z1.cell? ⟨H, 1, none⟩ = some (.int .i64 (s.base 0)) := h2.blk.cell 1
    have c12 : z1.cell? ⟨H, 12, none⟩ = some (.int .i64 s.sc) := h2.blk.cell 12
    have f9 := h2.blk.free 9
    have f12 := h2.blk.free 12
    have hl2 := h2.blk.lt
    go_upto_region 6 with fail
    go_region
    have hcs3 := ((Chg.refl (· = H) z1).setCell (p := ⟨H, 9, none⟩) (.inl rfl) (.int .i64 0)).setCell (p := ⟨H, 12, none⟩) (.inl rfl) (.int .i64 (s.base 0))
    have h3 : HeapIn _ H P b v0 v1 v2 v3 s.flip := h2.cells hcs3.drew rfl (flip_rows g.u01) (by
      rw [← flip_blk g.u01, hu]
      have hk : s.bk = s.base 0 := by unfold Hp.bk; rw [hu]
      rw [hk]
      have := (h2.blk.set 9 (.int .i64 0)).set 12 (.int .i64 (s.base 0))
      exact this)
    go_wp2
    go_ret
    exact ⟨rfl, h3.wentTo hF ((hc2.trans hcs3.drew).mono fun k e => .inl e)⟩
end

end Go.Proofs.Ytoohnnkhklifdaa

namespace Go.Proofs.Ytoohnnkhklifdaa
open Go.ChangeShapes Go.WideShapes Go.ChangeAt Go.RowKit

set_option linter.unusedSimpArgs false
set_option linter.unusedVariables false

section
variable {w : World} {H : Nat} {s : Hp} {K : Nat → Prop} (hw : HeapAt w K H s) (g : Ok s)
include hw g
theorem allocA (p d : Nat) (wk fn : Bool) (o1 : shB p d wk fn = true) (o2 : p ≤ 8) (o3 : d ≤ 8) (hr : Cls.rd (3 + p + d) ≤ s.room) (hse : s.se < 1099511627776) :
    Calls Try.prog 6 #[.pointer (some ⟨H, 0, none⟩), shV p d wk fn] w fun e w' => e = .returned (.tuple #[.int .i64 s.tn, .int .i64 0]) ∧ Went w K H (s.lay p d wk fn) w' := by
  obtain ⟨P, b, v0, v1, v2, v3, h, hF⟩ := hw
  exact allocH_yes h hF g.sound o1 o2 o3 hr hse g.len g.wkl g.fil
theorem allocA_full (p d : Nat) (wk fn : Bool) (o1 : shB p d wk fn = true) (o2 : p ≤ 8) (o3 : d ≤ 8) (hr : s.room < Cls.rd (3 + p + d)) :
    Calls Try.prog 6 #[.pointer (some ⟨H, 0, none⟩), shV p d wk fn] w fun e w' => e = .returned (.tuple #[.int .i64 0, .int .i64 100]) ∧ Below w.heap.size w w' := by
  obtain ⟨P, b, v0, v1, v2, v3, h, hF⟩ := hw
  exact allocH_full h g.sound o1 o2 o3 hr
theorem serialA (a : Nat) (ha : a ∈ s.pn) :
    Calls Try.prog 8 #[.pointer (some ⟨H, 0, none⟩), .int .i64 a] w fun e w' => e = .returned (.tuple #[.int .i64 (s.l.getD (a + 2) 0), .int .i64 0]) ∧ Below w.heap.size w w' := by
  obtain ⟨P, b, v0, v1, v2, v3, h, hF⟩ := hw
  have h1 := g.ser a (.inl ha)
  have h2 := g.sel
  exact serialH_yes h g.sound a ha _ _ fun x hx => serial_at a x hx (g.inn a ha).2.1.of (by omega)
theorem roomA : Calls Try.prog 12 #[.pointer (some ⟨H, 0, none⟩)] w fun e w' => e = .returned (.int .i64 s.room) ∧ Below w.heap.size w w' := by
  obtain ⟨P, b, v0, v1, v2, v3, h, hF⟩ := hw
  exact room_any h g.sound
theorem hereA (t : Int) : Calls Try.prog 15 #[.pointer (some ⟨H, 0, none⟩), .int .i64 t] w fun e w' => e = .returned (.bool (decide (t ∈ nums s.pn))) ∧ Below w.heap.size w w' := by
  obtain ⟨P, b, v0, v1, v2, v3, h, hF⟩ := hw
  exact here_any h g.sound t
theorem flipA (hm : s.mv = false) : Calls Try.prog 9 #[.pointer (some ⟨H, 0, none⟩)] w fun e w' => e = .returned (.bool true) ∧ Went w K H s.flip w' := by
  obtain ⟨P, b, v0, v1, v2, v3, h, hF⟩ := hw
  exact flipH_yes h hF g.sound hm
theorem dropA (hm : s.mv = true) (hsc : s.sc = s.tn) : Calls Try.prog 14 #[.pointer (some ⟨H, 0, none⟩)] w fun e w' => ∃ lv, e = .returned (.tuple #[lv, .bool true]) ∧ ReadsAs .i64 w' lv (nums (s.kept.lostL s.kept.wk)) ∧ Went w K H s.drop w' := by
  obtain ⟨P, b, v0, v1, v2, v3, h, hF⟩ := hw
  exact dropH_yes h hF g.toOkw hm hsc
end

theorem flipA_no {w : World} {H : Nat} {s : Hp} {K : Nat → Prop} (hw : HeapAt w K H s) (hm : s.mv = true) : Calls Try.prog 9 #[.pointer (some ⟨H, 0, none⟩)] w fun e w' => e = .returned (.bool false) ∧ Below w.heap.size w w' := by
  obtain ⟨P, b, v0, v1, v2, v3, h, hF⟩ := hw
  exact flipH_no h hm
/-- A heap whose blocks lie from n on. -/
def HeapFrom (n : Nat) (w : World) (H : Nat) (s : Hp) : Prop := ∃ K, HeapAt w K H s ∧ ∀ k, K k → n ≤ k
theorem HeapFrom.went {n : Nat} {w x : World} {K : Nat → Prop} {H : Nat} {s : Hp} (h : Went w K H s x) (hK : ∀ k, K k → n ≤ k) (hn : n ≤ w.heap.size) : HeapFrom n x H s ∧ Below n w x := by
  obtain ⟨K', h1, h2, h3⟩ := h
  exact ⟨⟨K', h1, fun k hk => (h2 k hk).elim (hK k) fun e => Nat.le_trans hn e⟩, h3.below hK hn⟩
theorem HeapFrom.on {n : Nat} {w x : World} {H : Nat} {s : Hp} (h : HeapFrom n w H s) (hb : Below w.heap.size w x) : HeapFrom n x H s := by
  obtain ⟨K, h1, h2⟩ := h
  exact ⟨K, h1.on hb, h2⟩

/-- The chapter's example. -/
def ex1 : Hp := (Hp.new 16).lay 1 0 false false
def ex2 : Hp := ex1.flip
def ex3 : Hp := ex2.moved 1
def ex4 : Hp := ex3.scan
def ex5 : Hp := ex4.drop
set_option maxRecDepth 100000 in
theorem ex1_is : ex1.pn = [1] ∧ ex1.room = 12 ∧ ex1.l.getD (1 + 2) 0 = 1 ∧ ex1.mv = false ∧ Cls.rd (3 + 1 + 0) ≤ (Hp.new 16).room := by decide
set_option maxRecDepth 100000 in
theorem ex3_is : ex2.pk = [1] ∧ ex2.movV 1 = 17 ∧ ex3.pn = [17] ∧ ex3.mv = true ∧ ex3.sc = 17 := by decide
set_option maxRecDepth 100000 in
theorem ex4_is : ex4.mv = true ∧ ex4.sc = ex4.tn ∧ ex4.kept.lostL ex4.kept.wk = [] := by decide
set_option maxRecDepth 100000 in
theorem ex5_is : ex5.pn = [17] ∧ ex5.room = 12 := by decide
theorem ex1_ok : Ok ex1 := (Ok.newOk (by omega) (by omega)).lay (by decide) (by omega) (by omega) ex1_is.2.2.2.2 (by decide)
theorem ex2_ok : Ok ex2 := ex1_ok.flip ex1_is.2.2.2.1
theorem ex3_ok : Ok ex3 := ex2_ok.moved 1
theorem ex4_ok : Ok ex4 := ex3_ok.scan ex3_is.2.2.2.1 (by rw [ex3_is.2.2.1, ex3_is.2.2.2.2]; simp)
theorem ex5_ok : Ok ex5 := ex4_ok.drop ex4_is.1 ex4_is.2.1

end Go.Proofs.Ytoohnnkhklifdaa

namespace Go.Proofs.Ytoohnnkhklifdaa
open Go.ChangeShapes Go.WideShapes Go.ChangeAt Go.RowKit

set_option linter.unusedSimpArgs false
set_option linter.unusedVariables false

section
variable {n : Nat} {x : World} {H : Nat} (hn : n ≤ x.heap.size)
include hn
theorem aw1 (h : HeapFrom n x H (Hp.new 16)) : Calls Try.prog 6 #[.pointer (some ⟨H, 0, none⟩), .agg #[.int .i64 1, .int .i64 0, .bool false, .bool false]] x fun e y => e = .returned (.tuple #[.int .i64 1, .int .i64 0]) ∧ HeapFrom n y H ex1 ∧ Below n x y := by
  obtain ⟨K, h1, h2⟩ := h
  exact (allocA h1 (Ok.newOk (by omega) (by omega)) 1 0 false false (by decide) (by omega) (by omega) ex1_is.2.2.2.2 (by decide)).mono fun e y ⟨a, b⟩ => ⟨a, HeapFrom.went b h2 hn⟩
theorem aw2 (h : HeapFrom n x H ex1) : Calls Try.prog 8 #[.pointer (some ⟨H, 0, none⟩), .int .i64 1] x fun e y => e = .returned (.tuple #[.int .i64 1, .int .i64 0]) ∧ HeapFrom n y H ex1 ∧ Below n x y := by
  obtain ⟨K, h1, h2⟩ := h
  have M := serialA h1 ex1_ok 1 (by rw [ex1_is.1]; simp)
  rw [ex1_is.2.2.1] at M
  exact M.mono fun e y ⟨a, b⟩ => ⟨a, ⟨K, h1.on b, h2⟩, b.mono hn⟩
theorem aw3 (h : HeapFrom n x H ex1) : Calls Try.prog 12 #[.pointer (some ⟨H, 0, none⟩)] x fun e y => e = .returned (.int .i64 12) ∧ HeapFrom n y H ex1 ∧ Below n x y := by
  obtain ⟨K, h1, h2⟩ := h
  have M := roomA h1 ex1_ok
  rw [ex1_is.2.1] at M
  exact M.mono fun e y ⟨a, b⟩ => ⟨a, ⟨K, h1.on b, h2⟩, b.mono hn⟩
theorem aw4 (h : HeapFrom n x H ex1) : Calls Try.prog 9 #[.pointer (some ⟨H, 0, none⟩)] x fun e y => e = .returned (.bool true) ∧ HeapFrom n y H ex2 ∧ Below n x y := by
  obtain ⟨K, h1, h2⟩ := h
  exact (flipA h1 ex1_ok ex1_is.2.2.2.1).mono fun e y ⟨a, b⟩ => ⟨a, HeapFrom.went b h2 hn⟩
theorem aw5 (h : HeapFrom n x H ex2) : Calls Try.prog 11 #[.pointer (some ⟨H, 0, none⟩), .int .i64 1] x fun e y => e = .returned (.int .i64 17) ∧ HeapFrom n y H ex3 ∧ Below n x y := by
  obtain ⟨K, h1, h2⟩ := h
  have M := movedH ex2_ok (p := 1) h1 (.inr (.inr (by rw [ex3_is.1]; simp)))
  rw [ex3_is.2.1] at M
  exact M.mono fun e y ⟨a, b⟩ => ⟨a, HeapFrom.went b h2 hn⟩
theorem aw6 (h : HeapFrom n x H ex3) : Calls Try.prog 13 #[.pointer (some ⟨H, 0, none⟩)] x fun e y => e = .returned (.bool true) ∧ HeapFrom n y H ex4 ∧ Below n x y := by
  obtain ⟨K, h1, h2⟩ := h
  exact (scanH_yes h1 ex3_ok ex3_is.2.2.2.1 (by rw [ex3_is.2.2.1, ex3_is.2.2.2.2]; simp)).mono fun e y ⟨a, b⟩ => ⟨a, HeapFrom.went b h2 hn⟩
theorem aw7 (h : HeapFrom n x H ex4) : Calls Try.prog 13 #[.pointer (some ⟨H, 0, none⟩)] x fun e y => e = .returned (.bool false) ∧ HeapFrom n y H ex4 ∧ Below n x y := by
  obtain ⟨K, h1, h2⟩ := h
  exact (scanH_end h1 ex4_ok.sound ex4_is.1 ex4_is.2.1).mono fun e y ⟨a, b⟩ => ⟨a, ⟨K, h1.on b, h2⟩, b.mono hn⟩
theorem aw8 (h : HeapFrom n x H ex4) : Calls Try.prog 14 #[.pointer (some ⟨H, 0, none⟩)] x fun e y => (∃ av c, e = .returned (.tuple #[.slice av 0 c, .bool true])) ∧ HeapFrom n y H ex5 ∧ Below n x y := by
  obtain ⟨K, h1, h2⟩ := h
  have M := dropA h1 ex4_ok ex4_is.1 ex4_is.2.1
  rw [ex4_is.2.2] at M
  refine M.mono fun e y ⟨lv, a, hr, b⟩ => ?_
  obtain ⟨av, c, e2, _⟩ := hr.slice
  exact ⟨⟨av, c, by rw [a, e2]; rfl⟩, HeapFrom.went b h2 hn⟩
theorem aw9 (h : HeapFrom n x H ex5) : Calls Try.prog 15 #[.pointer (some ⟨H, 0, none⟩), .int .i64 17] x fun e y => e = .returned (.bool true) ∧ HeapFrom n y H ex5 ∧ Below n x y := by
  obtain ⟨K, h1, h2⟩ := h
  have M := hereA h1 ex5_ok 17
  rw [ex5_is.1, show decide ((17 : Int) ∈ nums [17]) = true from by decide] at M
  exact M.mono fun e y ⟨a, b⟩ => ⟨a, ⟨K, h1.on b, h2⟩, b.mono hn⟩
theorem aw10 (h : HeapFrom n x H ex5) : Calls Try.prog 15 #[.pointer (some ⟨H, 0, none⟩), .int .i64 1] x fun e y => e = .returned (.bool false) ∧ HeapFrom n y H ex5 ∧ Below n x y := by
  obtain ⟨K, h1, h2⟩ := h
  have M := hereA h1 ex5_ok 1
  rw [ex5_is.1, show decide ((1 : Int) ∈ nums [17]) = false from by decide] at M
  exact M.mono fun e y ⟨a, b⟩ => ⟨a, ⟨K, h1.on b, h2⟩, b.mono hn⟩
theorem aw11 (h : HeapFrom n x H ex5) : Calls Try.prog 12 #[.pointer (some ⟨H, 0, none⟩)] x fun e y => e = .returned (.int .i64 12) ∧ HeapFrom n y H ex5 ∧ Below n x y := by
  obtain ⟨K, h1, h2⟩ := h
  have M := roomA h1 ex5_ok
  rw [ex5_is.2] at M
  exact M.mono fun e y ⟨a, b⟩ => ⟨a, ⟨K, h1.on b, h2⟩, b.mono hn⟩
end

set_option maxRecDepth 100000 in
set_option maxHeartbeats 4000000 in
theorem awake_yes (w : World) : Calls Try.prog 4 #[] w fun e w' => e = .returned (.bool true) ∧ Below w.heap.size w w' := by
  have N1 : Calls Try.prog 5 #[.int .i64 16] w fun e w' => ∃ H, e = .returned (.tuple #[.pointer (some ⟨H, 0, none⟩), .int .i64 0]) ∧ HeapFrom w.heap.size w' H (Hp.new 16) ∧ Below w.heap.size w w' :=
    (newH_yes 16 (by omega) (by omega) w).mono fun e w' ⟨H, a, b, c⟩ => ⟨H, a, ⟨_, b, fun k hk => hk.1⟩, c⟩
  have N2 := fun w => newH_small 15 (by omega) (by omega) w
  go_enter Try.func4, Try.ntmps4
  go_wp2_with fail
  refine N1.mono ?_
  rintro e x ⟨H, rfl, hH, hB⟩
  clear N1
  go_wp2_with fail
  refine (N2 _).mono ?_
  rintro e x1 ⟨rfl, hb⟩
  replace hH := hH.on hb
  replace hB := hB.trans (hb.mono hB.size)
  clear hb N2 x
  go_wp2_with fail
  refine (aw1 hB.size hH).mono ?_
  rintro e x2 ⟨rfl, hH2, hb⟩
  replace hB := hB.trans hb
  clear hb hH x1
  go_wp2_with fail
  refine (aw2 hB.size hH2).mono ?_
  rintro e x3 ⟨rfl, hH3, hb⟩
  replace hB := hB.trans hb
  clear hb hH2 x2
  go_wp2_with fail
  refine (aw3 hB.size hH3).mono ?_
  rintro e x4 ⟨rfl, hH4, hb⟩
  replace hB := hB.trans hb
  clear hb hH3 x3
  go_wp2_with fail
  refine (aw4 hB.size hH4).mono ?_
  rintro e x5 ⟨rfl, hH5, hb⟩
  replace hB := hB.trans hb
  clear hb hH4 x4
  go_wp2_with fail
  refine (aw5 hB.size hH5).mono ?_
  rintro e x6 ⟨rfl, hH6, hb⟩
  replace hB := hB.trans hb
  clear hb hH5 x5
  go_wp2_with fail
  refine (aw6 hB.size hH6).mono ?_
  rintro e x7 ⟨rfl, hH7, hb⟩
  replace hB := hB.trans hb
  clear hb hH6 x6
  go_wp2_with fail
  refine (aw7 hB.size hH7).mono ?_
  rintro e x8 ⟨rfl, hH8, hb⟩
  replace hB := hB.trans hb
  clear hb hH7 x7
  go_wp2_with fail
  refine (aw8 hB.size hH8).mono ?_
  rintro e x9 ⟨⟨av, c, rfl⟩, hH9, hb⟩
  replace hB := hB.trans hb
  clear hb hH8 x8
  go_wp2_with fail
  refine (aw9 hB.size hH9).mono ?_
  rintro e y1 ⟨rfl, hY1, hb⟩
  replace hB := hB.trans hb
  clear hb hH9 x9
  go_wp2_with fail
  refine (aw10 hB.size hY1).mono ?_
  rintro e y2 ⟨rfl, hY2, hb⟩
  replace hB := hB.trans hb
  clear hb hY1 y1
  go_wp2_with fail
  refine (aw11 hB.size hY2).mono ?_
  rintro e y3 ⟨rfl, hY3, hb⟩
  replace hB := hB.trans hb
  go_wp2
  go_ret
  exact ⟨rfl, hB⟩

end Go.Proofs.Ytoohnnkhklifdaa

namespace Go.Proofs.Ytoohnnkhklifdaa
open Go.ChangeShapes Go.WideShapes Go.ChangeAt Go.RowKit

set_option linter.unusedSimpArgs false
set_option linter.unusedVariables false

/-- k objects have been laid, and nothing has moved. -/
structure Ph1 (k : Nat) (s : Hp) : Prop where
  ok : Ok s
  mv : s.mv = false
  z : s.z = 500
  len : s.pn.length = k
  se : s.se = k
  tn : s.tn ≤ s.bn + 28 * k
  ser : ∀ j, j < k → s.l.getD (s.pn.getD j 0 + 2) 0 = ((j + 1 : Nat) : Int)
theorem Ph1.start : Ph1 0 (Hp.new 500) := ⟨Ok.newOk (by omega) (by omega), rfl, rfl, rfl, rfl, Nat.le_refl _, fun j h => by omega⟩
theorem rd_small {n : Nat} (h : n ≤ 19) (h3 : 3 ≤ n) : Cls.rd n ≤ 28 := by
  have := Cls.rd_half (m := n) (by omega) h3
  omega
theorem getD_mem' {l : List Nat} {j : Nat} (h : j < l.length) : l.getD j 0 ∈ l := by
  rw [List.getD_eq_getElem?_getD, List.getElem?_eq_getElem h]
  exact List.getElem_mem _
section
variable {k : Nat} {s : Hp}
theorem Ph1.room (h : Ph1 k s) (hk : k < 10) {p d : Nat} (hp : p ≤ 8) (hd : d ≤ 8) : Cls.rd (3 + p + d) ≤ s.room := by
  have h1 := rd_small (n := 3 + p + d) (by omega) (by omega)
  have h2 := h.tn
  have h3 := h.z
  have h4 := h.ok.owe
  rw [(h.ok.stop h.mv).1] at h4
  have h5 : s.ow = 0 := h4
  unfold Hp.room
  omega
theorem Ph1.lay (h : Ph1 k s) (hk : k < 10) {p d : Nat} {wk fn : Bool} (o1 : shB p d wk fn = true) (hp : p ≤ 8) (hd : d ≤ 8) : Ph1 (k + 1) (s.lay p d wk fn) ∧ (s.lay p d wk fn).l.getD (s.tn + 2) 0 = ((k + 1 : Nat) : Int) := by
  have hr := h.room hk hp hd
  have h1 := rd_small (n := 3 + p + d) (by omega) (by omega)
  have hpn : (s.lay p d wk fn).pn = s.pn ++ [s.tn] := rfl
  have hpl := h.ok.lay_place o1 hp hd hr
  have hnew : (s.lay p d wk fn).l.getD (s.tn + 2) 0 = ((k + 1 : Nat) : Int) := by
    rw [h.ok.lay_key o1 hp hd hr (by omega), if_pos rfl, h.se]
  refine ⟨⟨h.ok.lay o1 hp hd hr (by rw [h.se]; omega), h.mv, h.z, by rw [hpn, List.length_append, h.len]; rfl, by show s.se + 1 = k + 1; rw [h.se], ?_, fun j hj => ?_⟩, hnew⟩
  · show s.tn + Cls.rd (3 + p + d) ≤ s.bn + 28 * (k + 1)
    have := h.tn
    omega
  · rw [hpn]
    by_cases e : j = k
    · subst e
      have : (s.pn ++ [s.tn]).getD j 0 = s.tn := by rw [List.getD_eq_getElem?_getD, List.getElem?_append_right (by rw [h.len]; omega), h.len, Nat.sub_self]; rfl
      rw [this]; exact hnew
    · have hjl : j < s.pn.length := by rw [h.len]; omega
      have : (s.pn ++ [s.tn]).getD j 0 = s.pn.getD j 0 := by rw [List.getD_eq_getElem?_getD, List.getElem?_append_left hjl, List.getD_eq_getElem?_getD]
      rw [this]
      have hm := getD_mem' hjl
      have := ((h.ok.inn _ hm).2.1).nA_le
      rw [h.ok.lay_old o1 hp hd hr (.inl hm) (by omega)]
      exact h.ser j (by omega)

/-- The objects at the places l of the old space have their serials, wherever they are now. -/
structure Ph2 (l : List Nat) (s : Hp) : Prop where
  ok : Ok s
  pk : s.pk = l
  ser : ∀ j, j < l.length → s.l.getD (fwd s.l (l.getD j 0) + 2) 0 = ((j + 1 : Nat) : Int)
theorem Ph1.flip (h : Ph1 k s) : Ph2 s.pn s.flip := ⟨h.ok.flip h.mv, rfl, fun j hj => by
  have hm := getD_mem' hj
  show s.l.getD (fwd s.l (s.pn.getD j 0) + 2) 0 = _
  rw [((h.ok.inn _ hm).2.1).fwd]
  exact h.ser j (by rw [← h.len]; exact hj)⟩
theorem Ok.moved_ser (h : Ok s) (p : Nat) {x : Nat} (hx : x ∈ s.pk) : (s.moved p).l.getD (fwd (s.moved p).l x + 2) 0 = s.l.getD (fwd s.l x + 2) 0 := by
  by_cases hk : p ∈ s.pk
  · by_cases ho : isOb s.l p
    · rw [(h.moved_live hk ho).1, h.go_fwd hk ho (.inr hx)]
      by_cases e : fwd s.l x = p
      · rw [if_pos e, e]
        have := ho.nA_le
        exact h.go_new hk ho (by omega)
      · rw [if_neg e]
        rcases h.alive hx with e1 | ⟨_, _, n, hn, _, _, e5⟩
        · rw [e1.fwd] at e ⊢
          have := e1.nA_le
          exact h.go_pk hk ho hx e1 e (by omega)
        · rw [e5]
          have := ((h.inn n hn).2.1).nA_le
          exact h.go_pn hk ho hn (by omega)
    · rw [(h.moved_gone hk ho).1]
  · rw [(movV_out hk).1]
variable {l : List Nat}
theorem Ph2.moved (h : Ph2 l s) (p : Nat) : Ph2 l (s.moved p) :=
  ⟨h.ok.moved p, by rw [(moved_same s p).1]; exact h.pk, fun j hj => by
    rw [h.ok.moved_ser p (by rw [h.pk]; exact getD_mem' hj)]
    exact h.ser j hj⟩
/-- What Moved tells of the j-th: a place in use, which it keeps; its serial there. -/
theorem Ph2.tells (h : Ph2 l s) {j : Nat} (hj : j < l.length) : s.movV (l.getD j 0) ∈ (s.moved (l.getD j 0)).pn ∧ (s.moved (l.getD j 0)).l.getD (s.movV (l.getD j 0) + 2) 0 = ((j + 1 : Nat) : Int) ∧
    (s.moved (l.getD j 0)).movV (l.getD j 0) = s.movV (l.getD j 0) ∧ (s.moved (l.getD j 0)).moved (l.getD j 0) = s.moved (l.getD j 0) ∧ (s.moved (l.getD j 0)).movV (s.movV (l.getD j 0)) = s.movV (l.getD j 0) ∧ (s.moved (l.getD j 0)).moved (s.movV (l.getD j 0)) = s.moved (l.getD j 0) := by
  have hx : l.getD j 0 ∈ s.pk := by rw [h.pk]; exact getD_mem' hj
  have g := h.moved (l.getD j 0)
  have hx1 : l.getD j 0 ∈ (s.moved (l.getD j 0)).pk := by rw [g.pk]; exact getD_mem' hj
  have hj' := g.ser j hj
  generalize l.getD j 0 = x at *
  have hin : s.movV x ∈ (s.moved x).pn := (h.ok.movV_in (.inr (.inr hx))).elim (fun e => by
    have := (h.ok.pk_lt hx).1
    omega) id
  have hf : fwd (s.moved x).l x = s.movV x ∧ ¬ isOb (s.moved x).l x := by
    by_cases ho : isOb s.l x
    · rw [(h.ok.moved_live hx ho).1, (h.ok.moved_live hx ho).2]
      have := gone_fwd (h.ok.go_p hx ho)
      exact ⟨this.1, this.2.2⟩
    · rw [(h.ok.moved_gone hx ho).1, (h.ok.moved_gone hx ho).2.1]
      exact ⟨rfl, ho⟩
  have hno : s.movV x ∉ (s.moved x).pk := fun e => by
    have a1 := g.ok.inn _ hin
    have a2 := g.ok.ink _ e
    have := a1.2.1.nA_le
    have := g.ok.bases; have := g.ok.room; have := g.ok.k1
    omega
  refine ⟨hin, ?_, ?_, (g.ok.moved_gone hx1 hf.2).1, (movV_out hno).2, (movV_out hno).1⟩
  · rw [hf.1] at hj'; exact hj'
  · rw [(g.ok.moved_gone hx1 hf.2).2.1]; exact hf.1
end

end Go.Proofs.Ytoohnnkhklifdaa

namespace Go.Proofs.Ytoohnnkhklifdaa
open Go.ChangeShapes Go.WideShapes Go.ChangeAt Go.RowKit

/-- What a cell of a kind is: a number of that kind of integers; or a bool. -/
def CellOf : Option IntKind → Value → Prop
  | some k, v => ∃ z, v = .int k z ∧ (Lit.int k z).wf = true
  | none, v => ∃ b, v = .bool b

/-- The number in a cell; the bool in a cell. -/
def numOf : Value → Int | .int _ z => z | _ => 0
def boolOf : Value → Bool | .bool b => b | _ => false
theorem CellOf.int {k : IntKind} {v : Value} (h : CellOf (some k) v) : v = .int k (numOf v) ∧ (Lit.int k (numOf v)).wf = true := by
  obtain ⟨z, rfl, hz⟩ := h
  exact ⟨rfl, hz⟩
theorem CellOf.bool {v : Value} (h : CellOf none v) : v = .bool (boolOf v) := by
  obtain ⟨b, rfl⟩ := h
  rfl

/-- A type's cells, each by its kind, where all are integers and bools. -/
def flatFields (P : Program) (g : TypeId → Option (List (Option IntKind))) : List Field → Nat → Option (List (Option IntKind))
  | [], _ => some []
  | f :: r, o => match g f.type with
    | none => none
    | some ks => if f.offset = o ∧ P.cellsOf f.type = ks.length then (flatFields P g r (o + ks.length)).map (ks ++ ·) else none
def flat (P : Program) : Nat → TypeId → Option (List (Option IntKind))
  | 0, _ => none
  | n + 1, t => match P.underlying t with
    | some (.int k) => some [some k]
    | some .bool => some [none]
    | some (.struct fs) => match flatFields P (flat P n) fs.toList 0 with
      | some ks => if P.cellsOf t = ks.length then some ks else none
      | none => none
    | some (.array c e) => match flat P n e with
      | some ks => if P.cellsOf e = ks.length ∧ P.cellsOf t = c * ks.length then some (List.replicate c ks).flatten else none
      | none => none
    | _ => none

/-- These cells are of these kinds. -/
def AreOf (ks : List (Option IntKind)) (cs : List Value) : Prop := cs.length = ks.length ∧ ∀ (j : Nat) k v, ks[j]? = some k → cs[j]? = some v → CellOf k v
theorem AreOf.at_ {ks : List (Option IntKind)} {cs : List Value} (h : AreOf ks cs) {j : Nat} {k : Option IntKind} (hk : ks[j]? = some k) : ∃ v, cs[j]? = some v ∧ CellOf k v := by
  have hj : j < ks.length := (List.getElem?_eq_some_iff.1 hk).1
  have hv : cs[j]? = some (cs[j]'(by rw [h.1]; exact hj)) := List.getElem?_eq_getElem _
  exact ⟨_, hv, h.2 j k _ hk hv⟩
theorem AreOf.append {ks ls : List (Option IntKind)} {cs ds : List Value} (h : AreOf ks cs) (g : AreOf ls ds) : AreOf (ks ++ ls) (cs ++ ds) := by
  refine ⟨by simp [h.1, g.1], fun j k v hk hv => ?_⟩
  by_cases hj : j < ks.length
  · rw [List.getElem?_append_left hj] at hk
    rw [List.getElem?_append_left (by rw [h.1]; exact hj)] at hv
    exact h.2 j k v hk hv
  · rw [List.getElem?_append_right (by omega)] at hk
    rw [List.getElem?_append_right (by rw [h.1]; omega), h.1] at hv
    exact g.2 _ k v hk hv

section
variable {H : Type} {enc : TypeId × Value → H} {P : Program} {w : World} {base b0 : Nat} {spare : Nat → Bool} {held : Bool} {r : Reach}

theorem flatFields_ok {g : TypeId → Option (List (Option IntKind))} {n : Nat} {cs : List Value} (hg : ∀ t ks, g t = some ks → ∀ ds x, DataW.trod enc P w base spare held n t ds = some x → AreOf ks ds) :
    ∀ (fs : List Field) (o : Nat) (ks : List (Option IntKind)), flatFields P g fs o = some ks → (∀ f ∈ fs, ∃ x, DataW.trod enc P w base spare held n f.type ((cs.drop f.offset).take (P.cellsOf f.type)) = some x) → AreOf ks ((cs.drop o).take ks.length) := by
  intro fs
  induction fs with
  | nil =>
    intro o ks h _
    simp [flatFields] at h
    subst h
    exact ⟨by simp, fun j k v hk => by simp at hk⟩
  | cons f r ih =>
    intro o ks h hx
    unfold flatFields at h
    cases e : g f.type with
    | none => simp [e] at h
    | some k1 =>
      simp only [e] at h
      by_cases hc : f.offset = o ∧ P.cellsOf f.type = k1.length
      · rw [if_pos hc] at h
        obtain ⟨k2, h2, rfl⟩ := Option.map_eq_some_iff.1 h
        obtain ⟨x, hx1⟩ := hx f (by simp)
        rw [hc.1, hc.2] at hx1
        have a1 := hg _ _ e _ _ hx1
        have a2 := ih _ _ h2 fun f hf => hx f (by simp [hf])
        have := a1.append a2
        have hl := a1.1
        rw [List.length_take, List.length_drop] at hl
        have e3 : (cs.drop o).take (k1 ++ k2).length = (cs.drop o).take k1.length ++ (cs.drop (o + k1.length)).take k2.length := by
          rw [List.length_append, List.take_add, List.drop_drop]
        rw [e3]
        exact this
      · rw [if_neg hc] at h
        cases h

theorem flat_ok : ∀ (n : Nat) (t : TypeId) (ks : List (Option IntKind)), flat P n t = some ks → ∀ fuel cs x, DataW.trod enc P w base spare held fuel t cs = some x → AreOf ks cs := by
  intro n
  induction n with
  | zero => intro t ks h; simp [flat] at h
  | succ n ih =>
    intro t ks h fuel cs x hx
    unfold flat at h
    split at h
    · rename_i k ht
      injection h with h
      subst h
      obtain ⟨z, rfl, _, hw⟩ := DataW.trod_int ht hx
      refine ⟨rfl, fun j k' v hk hv => ?_⟩
      match j with
      | 0 => simp at hk hv; subst hk hv; exact ⟨z, rfl, hw⟩
      | j + 1 => simp at hk
    · rename_i ht
      injection h with h
      subst h
      obtain ⟨z, rfl, _⟩ := DataW.trod_bool ht hx
      refine ⟨rfl, fun j k' v hk hv => ?_⟩
      match j with
      | 0 => simp at hk hv; subst hk hv; exact ⟨z, rfl⟩
      | j + 1 => simp at hk
    · rename_i fs ht
      split at h
      · rename_i ks' hf
        by_cases hc : P.cellsOf t = ks'.length
        · rw [if_pos hc] at h
          injection h with h
          subst h
          obtain ⟨xs, m, _, _, hlen, hxl, hat⟩ := DataW.trod_struct ht hx
          have := flatFields_ok (cs := cs) (fun t ks ht ds x hx => ih t ks ht m ds x hx) fs.toList 0 ks' hf (fun f hm => by
            obtain ⟨i, hi, rfl⟩ := List.mem_iff_getElem.1 hm
            have hi' : i < fs.size := by simpa using hi
            have h1 := hat i fs.toList[i] (by simp [hi'])
            rw [List.getElem?_eq_getElem (by omega)] at h1
            exact ⟨_, h1⟩)
          rw [List.drop_zero, List.take_of_length_le (by rw [hlen, hc]; exact Nat.le_refl _)] at this
          exact this
        · rw [if_neg hc] at h; cases h
      · cases h
    · rename_i c e ht
      split at h
      · rename_i ks' hf
        by_cases hc : P.cellsOf e = ks'.length ∧ P.cellsOf t = c * ks'.length
        · rw [if_pos hc] at h
          injection h with h
          subst h
          obtain ⟨xs, m, _, _, hlen, hxl, hat⟩ := DataW.trod_array ht hx
          have key : ∀ i, i ≤ c → AreOf (List.replicate i ks').flatten (cs.take (i * ks'.length)) := by
            intro i
            induction i with
            | zero => intro _; exact ⟨by simp, fun j k v hk => by simp at hk⟩
            | succ i ihi =>
              intro hi
              have h1 := hat i (by omega)
              rw [List.getElem?_eq_getElem (by omega), hc.1] at h1
              have a2 := ih _ _ hf _ _ _ h1
              have := (ihi (by omega)).append a2
              rw [List.replicate_succ', List.flatten_append, show (i + 1) * ks'.length = i * ks'.length + ks'.length from by rw [Nat.add_mul, Nat.one_mul], List.take_add]
              simpa using this
          have := key c (Nat.le_refl _)
          rw [List.take_of_length_le (by rw [hlen, hc.2]; exact Nat.le_refl _)] at this
          exact this
        · rw [if_neg hc] at h; cases h
      · cases h
    · cases h

/-- A value that came in. -/
theorem open_flat {n : Nat} {t : TypeId} {ks : List (Option IntKind)} {v : Value} {d : DataW H} {p : List MemPlace} (hk : flat P n t = some ks) (h : DataW.Trod enc P w base spare held t v d p) : AreOf ks v.cells.toList := by
  obtain ⟨fuel, hf⟩ := h
  exact flat_ok n t ks hk _ _ _ hf

/-- A slice whose elements are C cells each: without room, or a row of 'cap' elements, of which the first 'len' are its own; cell j of element i holds 'V i j'. -/
def IsFlat (ks : List (Option IntKind)) (w : World) (a : Option Addr) (len cap : Nat) (V : Nat → Nat → Value) : Prop :=
  (len = 0 ∧ cap = 0) ∨
  ∃ b off, a = some ⟨b, off, none⟩ ∧ b < w.heap.size ∧ len ≤ cap ∧ cap ≤ maxLen ∧ ∀ i, i < cap → ∀ j k, ks[j]? = some k → w.cell? ⟨b, off + i * ks.length + j, none⟩ = some (V i j) ∧ CellOf k (V i j)
theorem IsFlat.below {ks : List (Option IntKind)} {w w' : World} {a : Option Addr} {len cap : Nat} {V : Nat → Nat → Value} (h : IsFlat ks w a len cap V) (hb : Below w.heap.size w w') : IsFlat ks w' a len cap V :=
  h.imp id fun ⟨b, off, e, hlt, h1, h2, hc⟩ => ⟨b, off, e, Nat.lt_of_lt_of_le hlt hb.size, h1, h2, fun i hi j k hk => ⟨(hb.cell (p := ⟨b, off + i * ks.length + j, none⟩) hlt).trans (hc i hi j k hk).1, (hc i hi j k hk).2⟩⟩

theorem open_flats {n : Nat} {t e : TypeId} {ks : List (Option IntKind)} {a : Option Addr} {len cap : Nat} {d : DataW H} {p : List MemPlace} (ht : P.underlying t = some (.slice e)) (hk : flat P n e = some ks) (hC : P.cellsOf e = ks.length) (hpos : 0 < ks.length)
    (h : DataW.Trod enc P w base (fun _ => true) held t (.slice a len cap) d p) : ∃ V, IsFlat ks w a len cap V := by
  obtain ⟨fuel, hf⟩ := h
  rcases Deep.open_slice ht hf with ⟨hcs, _⟩ | ⟨x, l, c, m, n', D, Pl, hcs, hb, hl, hm, hmm, _, hi⟩
  · simp [Value.cells] at hcs
    obtain ⟨rfl, rfl, rfl⟩ := hcs
    exact ⟨fun _ _ => undef, .inl ⟨rfl, rfl⟩⟩
  · simp [Value.cells] at hcs
    obtain ⟨rfl, rfl, rfl⟩ := hcs
    rw [if_pos rfl] at hmm
    subst hmm
    rw [hC] at hi
    have key : ∀ i, i < m → ∃ cs : List Value, AreOf ks cs ∧ ∀ j v, cs[j]? = some v → w.cell? (x.add (i * ks.length + j)) = some v := by
      intro i hlt
      obtain ⟨cs, h1, h2⟩ := hi i hlt
      have hA := flat_ok n e ks hk _ _ _ h2
      refine ⟨cs, hA, fun j v hv => ?_⟩
      obtain ⟨_, hlen, hat⟩ := World.cells?_some h1
      have hj : j < cs.length := (List.getElem?_eq_some_iff.1 hv).1
      have := hat j (by omega)
      rw [hv, Deep.add_add] at this
      exact this
    obtain ⟨F, hF⟩ := Deep.choose_lt key
    by_cases h0 : m = 0
    · subst h0
      exact ⟨fun _ _ => undef, .inl ⟨by omega, rfl⟩⟩
    · obtain ⟨b, off, spot⟩ := x
      have hA0 := (hF 0 (by omega)).1
      have hk0 : ks[0]? = some ks[0] := List.getElem?_eq_getElem hpos
      obtain ⟨v0, hv0, _⟩ := hA0.at_ hk0
      have hc0 := (hF 0 (by omega)).2 0 v0 hv0
      have hspot : spot = none := by simpa [Addr.add] using World.cell?_spot hc0
      subst hspot
      refine ⟨fun i j => (F i).getD j undef, .inr ⟨b, off, rfl, World.block_lt_of_cell? w ⟨b, off, none⟩ (by simpa [Addr.add] using hc0), hl, hm, fun i hlt j k hjk => ?_⟩⟩
      obtain ⟨v, hv, hkv⟩ := (hF i hlt).1.at_ hjk
      have hc := (hF i hlt).2 j v hv
      have e : (F i).getD j undef = v := by rw [List.getD_eq_getElem?_getD, hv]; rfl
      show _ = some ((F i).getD j undef) ∧ CellOf k ((F i).getD j undef)
      rw [e]
      refine ⟨?_, hkv⟩
      have e2 : (⟨b, off, none⟩ : Addr).add (i * ks.length + j) = ⟨b, off + i * ks.length + j, none⟩ := by
        unfold Addr.add; split <;> simp_all [Nat.add_assoc]
      rw [← e2]; exact hc
end

end Go.Proofs.Ytoohnnkhklifdaa
