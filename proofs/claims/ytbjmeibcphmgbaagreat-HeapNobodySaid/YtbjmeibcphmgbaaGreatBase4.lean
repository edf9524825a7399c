/- Put together: Package heap, at a heap that is right, in whole: Ptr, SetPtr, SetNum, SetFreed, Shape, Scan, Finals, Drop; and twins in memory. Condition: the heap is right. Layer 10's law: Does of twins that are alike. Condition: they are (Good), and not too many objects. Layer 10's law: Does of twins that are alike, of kinds 3 and 4. Condition: they are (Good), and not too many objects. Layer 10's law: Does of twins that are alike, of kinds 5 to 8. Condition: they are (Good), and not too many objects. Layer 10's law: Does of twins that are alike, of kind 8. Condition: they are (Good), and not too many objects. Layer 10's law: Does of twins that are alike, of kinds 9 to 12. Condition: they are (Good), and not too many objects. Layer 10's law: Does of twins that are alike, of any kind. Condition: they are (Good), and not too many objects. The look at chapter 10's example: awake tells true. No condition. What comes in as a value, or as a slice's elements, where all of it is integers and bools in a row of cells (structs, arrays, one in another): opened cell by cell. Plain; no condition. What layer 10's and 11's laws over raw ops share: an op of the list, Alike of twins in memory. Condition: they are alike. -/
import Derived.Test.YtbjmeibcphmgbaaGreatBase3
import Derived.Test.YtbjmeibcphmgbaaGreatBase1
import Derived.Deep.CutRange
import Derived.Deep.RegionHeld3
import Derived.Test.YtbjmeibcphmgbaaGreatRows
import Derived.WalkKit
import Derived.ProofKit
import Derived.OpenShut
import Derived.Below
import Derived.Deep.Slices
import Derived.Deep.Fields
namespace Go.Proofs.YtbjmeibcphmgbaaGreat
open Go.ChangeShapes Go.WideShapes Go.ChangeAt Go.RowKit

set_option linter.unusedSimpArgs false
set_option linter.unusedVariables false

section
variable {w : World} {H : Nat} {s : Hp} {K : Nat → Prop} (hw : HeapAt w K H s) (g : Ok s)
include hw g
theorem ptrA (a i : Nat) (hi : i ≤ 100) :
    Calls Tryz.prog 32 #[.pointer (some ⟨H, 0, none⟩), .int .i64 a, .int .i64 i] w fun e w' => e = .returned (.tuple #[.int .i64 (s.ptrV a i : Nat), .int .i64 (s.ptrE a i : Nat)]) ∧ Went w K H (s.ptrS a i) w' := by
  by_cases h1 : a ∈ s.pn
  · have ob := (g.inn a h1).2.1.of
    have hl := ob.ptrs
    obtain ⟨P, b, v0, v1, v2, v3, h, hF⟩ := hw
    by_cases h2 : i < hp (hdW s.l a)
    · have e0 : s.ptrE a i = 0 := by unfold Hp.ptrE; rw [if_pos h1, if_pos h2]
      obtain ⟨_, _, h3, o, hin, e2⟩ := g.ptr_in e0
      have hb := hin
      have hle : s.ptrT a i ≤ 131072 := by
        have := (g.toOkw.inOk_le hin).2; omega
      have M := ptrH_yes h hF g.sound a (s.ptrT a i) (s.movV (s.ptrT a i)) h1 i (s.moved (s.ptrT a i)) ((s.moved (s.ptrT a i)).l.set (a + (3 + i)) (s.movV (s.ptrT a i) : Nat))
        (fun x hx => by rw [e2]; exact ptr_at a i x hx ob h2 (by rw [← e2]; omega))
        (fun x hx => movedH g hx hin)
        (fun x P' b' hx => by
          have hm := moved_pn s (s.ptrT a i) h1
          have hh := g.moved_head (s.ptrT a i) h1
          have ob2 := ((g.moved (s.ptrT a i)).inn a hm).2.1.of
          exact setPtr_at a i (s.movV (s.ptrT a i)) x hx ob2 (by rw [hdW_congr hh]; exact h2) (g.movV_le hin))
      have eV : s.ptrV a i = s.movV (s.ptrT a i) := by unfold Hp.ptrV; rw [if_pos e0]
      have eS : s.ptrS a i = { s.moved (s.ptrT a i) with l := (s.moved (s.ptrT a i)).l.set (a + (3 + i)) (s.movV (s.ptrT a i) : Nat) } := by unfold Hp.ptrS; rw [if_pos e0]; rfl
      rw [e0, eV, eS]
      exact M
    · have e0 : s.ptrE a i = 71 := by unfold Hp.ptrE; rw [if_pos h1, if_neg h2]
      have eV : s.ptrV a i = 0 := by unfold Hp.ptrV; rw [if_neg (by omega)]
      have eS : s.ptrS a i = s := by unfold Hp.ptrS; rw [if_neg (by omega)]
      rw [e0, eV, eS]
      exact (ptrH_field h g.sound a h1 i fun x hx => ptr_no a i x hx ob (by omega) (by omega) (by omega)).mono fun e x ⟨q1, q2⟩ => ⟨q1, Went.of_below ⟨P, b, v0, v1, v2, v3, h, hF⟩ q2⟩
  · have e0 : s.ptrE a i = 70 := by unfold Hp.ptrE; rw [if_neg h1]
    have eV : s.ptrV a i = 0 := by unfold Hp.ptrV; rw [if_neg (by omega)]
    have eS : s.ptrS a i = s := by unfold Hp.ptrS; rw [if_neg (by omega)]
    rw [e0, eV, eS]
    exact (ptrH_no hw g.sound a (fun e => h1 (mem_nums.1 e)) i).mono fun e x ⟨q1, q2⟩ => ⟨q1, Went.of_below hw q2⟩
theorem setPtrA (a i p : Nat) (hi : i ≤ 100) :
    Calls Tryz.prog 34 #[.pointer (some ⟨H, 0, none⟩), .int .i64 a, .int .i64 i, .int .i64 p] w fun e w' => e = .returned (.int .i64 (s.setPtrE a i p : Nat)) ∧ Went w K H (s.setPtrS a i p) w' := by
  by_cases h1 : a ∈ s.pn ∧ (p = 0 ∨ p ∈ s.pn)
  · have ob := (g.inn a h1.1).2.1.of
    have hl := ob.ptrs
    have hp' : ((p : Nat) : Int) = 0 ∨ ((p : Nat) : Int) ∈ nums s.pn := h1.2.imp (fun e => by omega) mem_nums.2
    obtain ⟨P, b, v0, v1, v2, v3, h, hF⟩ := hw
    by_cases h2 : i < hp (hdW s.l a)
    · have e0 : s.setPtrE a i p = 0 := by unfold Hp.setPtrE; rw [if_pos h1, if_pos h2]
      have eS : s.setPtrS a i p = { s with l := s.l.set (a + (3 + i)) (p : Nat) } := by unfold Hp.setPtrS; rw [if_pos e0]; rfl
      rw [e0, eS]
      exact setPtrH_yes h hF g.sound a h1.1 i p hp' 0 (s.l.set (a + (3 + i)) (p : Nat)) fun x hx => setPtr_at a i p x hx ob h2 (g.pn_le h1.2)
    · have e0 : s.setPtrE a i p = 71 := by unfold Hp.setPtrE; rw [if_pos h1, if_neg h2]
      have eS : s.setPtrS a i p = s := by unfold Hp.setPtrS; rw [if_neg (by omega)]
      rw [e0, eS]
      exact setPtrH_yes h hF g.sound a h1.1 i p hp' 71 s.l fun x hx => (setPtr_no a i p x hx ob (by omega) (by omega) (by omega)).mono fun e y ⟨q1, q2⟩ => ⟨q1, hx.below q2 hx.lt.1 hx.lt.2, Chg.of_below q2 (Nat.le_refl _)⟩
  · have e0 : s.setPtrE a i p = 70 := by unfold Hp.setPtrE; rw [if_neg h1]
    have eS : s.setPtrS a i p = s := by unfold Hp.setPtrS; rw [if_neg (by omega)]
    rw [e0, eS]
    refine (setPtrH_no hw g.sound a i p ?_).mono fun e x ⟨q1, q2⟩ => ⟨q1, Went.of_below hw q2⟩
    by_cases h3 : a ∈ s.pn
    · exact .inr fun e => h1 ⟨h3, e.imp (fun e => by omega) mem_nums.1⟩
    · exact .inl fun e => h3 (mem_nums.1 e)
theorem setNumA (a i : Nat) (n : Int) (hi : i ≤ 100) (n0 : -9223372036854775808 ≤ n) (n1 : n ≤ 9223372036854775807) :
    Calls Tryz.prog 35 #[.pointer (some ⟨H, 0, none⟩), .int .i64 a, .int .i64 i, .int .i64 n] w fun e w' => e = .returned (.int .i64 (s.setNumE a i : Nat)) ∧ Went w K H (s.setNumS a i n) w' := by
  by_cases h1 : a ∈ s.pn
  · have ob := (g.inn a h1).2.1.of
    have hl := ob.data
    obtain ⟨P, b, v0, v1, v2, v3, h, hF⟩ := hw
    by_cases h2 : i < hd (hdW s.l a)
    · have e0 : s.setNumE a i = 0 := by unfold Hp.setNumE; rw [if_pos h1, if_pos h2]
      have eS : s.setNumS a i n = { s with l := s.l.set (a + (3 + hp (hdW s.l a) + i)) (zigOf n) } := by unfold Hp.setNumS; rw [if_pos e0]; rfl
      rw [e0, eS]
      exact setNumH_yes h hF g.sound a h1 i n 0 (s.l.set (a + (3 + hp (hdW s.l a) + i)) (zigOf n)) fun x hx => setNum_at a i n x hx ob h2 n0 n1
    · have e0 : s.setNumE a i = 71 := by unfold Hp.setNumE; rw [if_pos h1, if_neg h2]
      have eS : s.setNumS a i n = s := by unfold Hp.setNumS; rw [if_neg (by omega)]
      rw [e0, eS]
      exact setNumH_yes h hF g.sound a h1 i n 71 s.l fun x hx => (setNum_no a i n x hx ob (by omega) (by omega) (by omega) n0 n1).mono fun e y ⟨q1, q2⟩ => ⟨q1, hx.below q2 hx.lt.1 hx.lt.2, Chg.of_below q2 (Nat.le_refl _)⟩
  · have e0 : s.setNumE a i = 70 := by unfold Hp.setNumE; rw [if_neg h1]
    have eS : s.setNumS a i n = s := by unfold Hp.setNumS; rw [if_neg (by omega)]
    rw [e0, eS]
    exact (setNumH_no hw g.sound a (fun e => h1 (mem_nums.1 e)) i n).mono fun e x ⟨q1, q2⟩ => ⟨q1, Went.of_below hw q2⟩
theorem setFreedA (a : Nat) (tf : Bool) :
    Calls Tryz.prog 36 #[.pointer (some ⟨H, 0, none⟩), .int .i64 a, .bool tf] w fun e w' => e = .returned (.int .i64 (s.frE a : Nat)) ∧ Went w K H (s.frS a tf) w' := by
  by_cases h1 : a ∈ s.pn
  · have ob := (g.inn a h1).2.1.of
    obtain ⟨P, b, v0, v1, v2, v3, h, hF⟩ := hw
    have e0 : s.frE a = 0 := by unfold Hp.frE; rw [if_pos h1]
    have eS : s.frS a tf = { s with l := s.l.set a (headN (hp (hdW s.l a)) (hd (hdW s.l a)) (hw (hdW s.l a)) (hf (hdW s.l a)) tf : Nat) } := by unfold Hp.frS; rw [if_pos h1]; rfl
    rw [e0, eS]
    exact setFreedH_yes h hF g.sound a h1 tf 0 _ fun x hx => setFreed_at a tf x hx ob
  · have e0 : s.frE a = 70 := by unfold Hp.frE; rw [if_neg h1]
    have eS : s.frS a tf = s := by unfold Hp.frS; rw [if_neg h1]
    rw [e0, eS]
    exact (setFreedH_no hw g.sound a (fun e => h1 (mem_nums.1 e)) tf).mono fun e x ⟨q1, q2⟩ => ⟨q1, Went.of_below hw q2⟩
theorem shapeA_yes (a : Nat) (ha : a ∈ s.pn) :
    Calls Tryz.prog 30 #[.pointer (some ⟨H, 0, none⟩), .int .i64 a] w fun e w' => e = .returned (.tuple #[shV (hp (hdW s.l a)) (hd (hdW s.l a)) (Go.Proofs.YtbjmeibcphmgbaaGreat.hw (hdW s.l a)) (hf (hdW s.l a)), .bool (hr (hdW s.l a)), .int .i64 0]) ∧ Below w.heap.size w w' := by
  obtain ⟨P, b, v0, v1, v2, v3, h, hF⟩ := hw
  exact shapeH_yes h g.sound a _ _ _ _ _ ha (g.inn a ha).2.1.of
theorem scanA :
    Calls Tryz.prog 18 #[.pointer (some ⟨H, 0, none⟩)] w fun e w' => (∃ b : Bool, e = .returned (.bool b) ∧ (b = true ↔ (s.mv = true ∧ s.sc ≠ s.tn))) ∧ Went w K H s.scanS w' := by
  unfold Hp.scanS
  by_cases h1 : s.mv = true ∧ s.sc ≠ s.tn
  · rw [if_pos h1]
    exact (scanH_yes hw g h1.1 ((g.scn h1.1).resolve_left h1.2)).mono fun e x ⟨q1, q2⟩ => ⟨⟨true, q1, ⟨fun _ => h1, fun _ => rfl⟩⟩, q2⟩
  · rw [if_neg h1]
    by_cases h2 : s.mv = true
    · exact (scanH_end hw g.sound h2 (Classical.not_not.1 fun e => h1 ⟨h2, e⟩)).mono fun e x ⟨q1, q2⟩ => ⟨⟨false, q1, ⟨fun e => absurd e (by decide), fun e => absurd e h1⟩⟩, Went.of_below hw q2⟩
    · exact (scanH_still hw (by simpa using h2)).mono fun e x ⟨q1, q2⟩ => ⟨⟨false, q1, ⟨fun e => absurd e (by decide), fun e => absurd e h1⟩⟩, Went.of_below hw q2⟩
theorem finalsA :
    Calls Tryz.prog 19 #[.pointer (some ⟨H, 0, none⟩)] w fun e w' => ∃ lv, e = .returned lv ∧ RowIs w' lv s.finV ∧ (∀ g, lv.ownBlock = some g → w.heap.size ≤ g) ∧
      ∃ K', HeapAt w' K' H s.finS ∧ (∀ k, K' k → K k ∨ w.heap.size ≤ k) ∧ (∀ g, lv.ownBlock = some g → ¬ K' g) ∧ Chg K w w' := by
  unfold Hp.finS Hp.finV
  by_cases h1 : s.mv = true
  · rw [if_pos h1, if_pos h1]
    exact finalsH_yes hw g h1
  · rw [if_neg h1, if_neg h1]
    refine (finalsH_still hw (by simpa using h1)).mono fun e x ⟨q1, q2⟩ => ⟨_, q1, ?_, fun g e => by simp [Value.ownBlock] at e, K, hw.on q2, fun _ h => .inl h, fun g e => by simp [Value.ownBlock] at e, Chg.of_below q2 (Nat.le_refl _)⟩
    exact ⟨rfl, .inl ⟨rfl, rfl⟩⟩
theorem dropA_all :
    Calls Tryz.prog 20 #[.pointer (some ⟨H, 0, none⟩)] w fun e w' => ∃ (lv : Value) (b : Bool), e = .returned (.tuple #[lv, .bool b]) ∧ (b = true ↔ (s.mv = true ∧ s.sc = s.tn)) ∧ ReadsAs .i64 w' lv (nums s.dropV) ∧ Went w K H s.dropS w' := by
  unfold Hp.dropS Hp.dropV
  by_cases h1 : s.mv = true ∧ s.sc = s.tn
  · rw [if_pos h1, if_pos h1]
    exact (dropA hw g h1.1 h1.2).mono fun e x ⟨lv, q1, q2, q3⟩ => ⟨lv, true, q1, ⟨fun _ => h1, fun _ => rfl⟩, q2, q3⟩
  · rw [if_neg h1, if_neg h1]
    refine (dropH_no hw g.sound ?_).mono fun e x ⟨q1, q2⟩ => ⟨_, false, q1, ⟨fun e => absurd e (by decide), fun e => absurd e h1⟩, ⟨by simp [nums], .inl ⟨rfl, _, rfl⟩⟩, Went.of_below hw q2⟩
    by_cases h2 : s.mv = true
    · exact .inr fun e => h1 ⟨h2, e⟩
    · exact .inl (by simpa using h2)
theorem flipA_all :
    Calls Tryz.prog 16 #[.pointer (some ⟨H, 0, none⟩)] w fun e w' => e = .returned (.bool !s.mv) ∧ Went w K H (if s.mv = true then s else s.flip) w' := by
  by_cases h1 : s.mv = true
  · rw [if_pos h1, h1]
    exact (flipA_no hw h1).mono fun e x ⟨q1, q2⟩ => ⟨q1, Went.of_below hw q2⟩
  · have h2 : s.mv = false := by simpa using h1
    rw [if_neg h1, h2]
    exact flipA hw g h2
end

/-- No block but a heap's. -/
def OwnTy (w : World) (K : Nat → Prop) : Prop := ∀ k cs ty, K k → BlkIs w k cs ty → ty = 80 ∨ ty = 146 ∨ ty = 65 ∨ ty = 3
theorem OwnTy.not {w : World} {K : Nat → Prop} (h : OwnTy w K) {k : Nat} {cs : Array Value} {ty : TypeId} (hk : BlkIs w k cs ty) (t1 : ty ≠ 80) (t2 : ty ≠ 146) (t3 : ty ≠ 65) (t4 : ty ≠ 3) : ¬ K k := fun e => by
  rcases h k cs ty e hk with e | e | e | e
  · exact t1 e
  · exact t2 e
  · exact t3 e
  · exact t4 e
theorem HeapAt.own {w : World} {K : Nat → Prop} {H : Nat} {s : Hp} (h : HeapAt w K H s) : ∃ K', HeapAt w K' H s ∧ (∀ k, K' k → K k ∧ k < w.heap.size) ∧ OwnTy w K' := by
  obtain ⟨P, b, v0, v1, v2, v3, h1, h2⟩ := h
  refine ⟨Foot H P b v0 v1 v2 v3, ⟨P, b, v0, v1, v2, v3, h1, fun k hk => hk⟩, fun k hk => ⟨h2 k hk, h1.lt hk⟩, fun k cs ty hk hb => ?_⟩
  apply Classical.byContradiction
  intro hn
  exact h1.not_foot hb (fun e => hn (.inl e)) (fun e => hn (.inr (.inl e))) (fun e => hn (.inr (.inr (.inl e)))) (fun e => hn (.inr (.inr (.inr e)))) hk
/-- A twin in memory, all of it from block n on. -/
def TwinFrom (n : Nat) (w : World) (T A B : Nat) (t : St) : Prop := ∃ KA KB, TwinAt w T A B KA KB t.R t.S t.s t.r ∧ (∀ k, KA k → n ≤ k) ∧ (∀ k, KB k → n ≤ k) ∧ n ≤ T
section
variable {n : Nat} {w x : World} {T A B : Nat} {t : St}
theorem TwinFrom.on (h : TwinFrom n w T A B t) (hb : Below w.heap.size w x) : TwinFrom n x T A B t := by
  obtain ⟨KA, KB, h1, h2⟩ := h
  exact ⟨KA, KB, h1.on hb, h2⟩
theorem TwinFrom.chg {S : Nat → Prop} (h : TwinFrom n w T A B t) (hc : Chg S w x) (hs : ∀ k, n ≤ k → k < w.heap.size → ¬ S k) : TwinFrom n x T A B t := by
  obtain ⟨KA, KB, h1, h2, h3, h4⟩ := h
  exact ⟨KA, KB, ⟨h1.blk.chg hc (hs _ h4 h1.blk.lt), h1.hA.chg hc fun k hk hl => hs k (h2 k hk) hl, h1.hB.chg hc fun k hk hl => hs k (h3 k hk) hl, h1.ab, h1.ta, h1.tb, h1.rl, h1.sl⟩, h2, h3, h4⟩
theorem TwinFrom.lt (h : TwinFrom n w T A B t) : T < w.heap.size ∧ n ≤ T := by
  obtain ⟨KA, KB, h1, h2, h3, h4⟩ := h
  exact ⟨h1.blk.lt, h4⟩
/-- Its cells. -/
theorem TwinFrom.cells (h : TwinFrom n w T A B t) : w.cell? ⟨T, 0, none⟩ = some (.pointer (some ⟨A, 0, none⟩)) ∧ w.cell? ⟨T, 1, none⟩ = some (.pointer (some ⟨B, 0, none⟩)) ∧
    (∀ i, i < 4 → w.cell? ⟨T, 2 + i, none⟩ = some (.int .i64 (t.R.getD i 0 : Nat))) ∧ (∀ i, i < 4 → w.cell? ⟨T, 6 + i, none⟩ = some (.int .i64 (t.S.getD i 0 : Nat))) ∧ ∀ i, w.frozen? ⟨T, i, none⟩ = false := by
  obtain ⟨KA, KB, h1, _⟩ := h
  exact ⟨h1.blk.cell 0, h1.blk.cell 1, fun i hi => (h1.blk.cell _).trans (twL_r h1.rl hi), fun i hi => (h1.blk.cell _).trans (twL_s h1.rl h1.sl hi), fun i => h1.blk.free i⟩
/-- The first heap goes on. -/
theorem TwinFrom.goA (h : TwinFrom n w T A B t) (hn : n ≤ w.heap.size) : ∃ K, HeapAt w K A t.s ∧ OwnTy w K ∧ (∀ k, K k → n ≤ k) ∧ ∀ s' x, Went w K A s' x → TwinFrom n x T A B { t with s := s' } ∧ Below n w x := by
  obtain ⟨KA, KB, h1, h2, h3, h4⟩ := h
  obtain ⟨K, hK, hKA, hKt⟩ := h1.hA.own
  refine ⟨K, hK, hKt, fun k hk => h2 k (hKA k hk).1, fun s' x hW => ?_⟩
  obtain ⟨K', g1, g2, g3⟩ := hW
  refine ⟨⟨K', fun k => KB k ∧ k < w.heap.size, ⟨h1.blk.chg g3 fun e => h1.ta (hKA _ e).1, g1, h1.hB.tight.chg g3 fun k hk _ hk' => h1.ab k (hKA k hk').1 hk.1, fun k hk hk' => ?_, fun hk => ?_, fun hk => h1.tb hk.1, h1.rl, h1.sl⟩, fun k hk => ?_, fun k hk => h3 k hk.1, h4⟩, g3.below (fun k hk => h2 k (hKA k hk).1) hn⟩
  · rcases g2 k hk with e | e
    · exact h1.ab k (hKA k e).1 hk'.1
    · omega
  · rcases g2 _ hk with e | e
    · exact h1.ta (hKA _ e).1
    · have := h1.blk.lt; omega
  · rcases g2 k hk with e | e
    · exact h2 k (hKA k e).1
    · omega
theorem TwinFrom.goB (h : TwinFrom n w T A B t) (hn : n ≤ w.heap.size) : ∃ K, HeapAt w K B t.r ∧ OwnTy w K ∧ (∀ k, K k → n ≤ k) ∧ ∀ r' x, Went w K B r' x → TwinFrom n x T A B { t with r := r' } ∧ Below n w x := by
  obtain ⟨KA, KB, h1, h2, h3, h4⟩ := h
  obtain ⟨K, hK, hKB, hKt⟩ := h1.hB.own
  refine ⟨K, hK, hKt, fun k hk => h3 k (hKB k hk).1, fun r' x hW => ?_⟩
  obtain ⟨K', g1, g2, g3⟩ := hW
  refine ⟨⟨fun k => KA k ∧ k < w.heap.size, K', ⟨h1.blk.chg g3 fun e => h1.tb (hKB _ e).1, h1.hA.tight.chg g3 fun k hk _ hk' => h1.ab k hk.1 (hKB k hk').1, g1, fun k hk hk' => ?_, fun hk => h1.ta hk.1, fun hk => ?_, h1.rl, h1.sl⟩, fun k hk => h2 k hk.1, fun k hk => ?_, h4⟩, g3.below (fun k hk => h3 k (hKB k hk).1) hn⟩
  · rcases g2 k hk' with e | e
    · exact h1.ab k hk.1 (hKB k e).1
    · omega
  · rcases g2 _ hk with e | e
    · exact h1.tb (hKB _ e).1
    · have := h1.blk.lt; omega
  · rcases g2 k hk with e | e
    · exact h3 k (hKB k e).1
    · omega
/-- A register is set. -/
theorem TwinFrom.setR (h : TwinFrom n w T A B t) {i : Nat} (hi : i < 4) (p : Nat) : TwinFrom n (w.setCell ⟨T, 2 + i, none⟩ (.int .i64 p)) T A B { t with R := t.R.set i p } ∧ Chg (· = T) w (w.setCell ⟨T, 2 + i, none⟩ (.int .i64 p)) := by
  obtain ⟨KA, KB, h1, h2, h3, h4⟩ := h
  have hc : Chg (· = T) w (w.setCell ⟨T, 2 + i, none⟩ (.int .i64 p)) := (Chg.refl (· = T) w).setCell (.inl rfl) _
  refine ⟨⟨KA, KB, ⟨?_, h1.hA.chg hc fun k hk _ e => h1.ta (e ▸ hk), h1.hB.chg hc fun k hk _ e => h1.tb (e ▸ hk), h1.ab, h1.ta, h1.tb, by show (t.R.set i p).length = 4; rw [List.length_set]; exact h1.rl, h1.sl⟩, h2, h3, h4⟩, hc⟩
  have := h1.blk.set (2 + i) (.int .i64 p)
  rw [twL_setR h1.rl hi] at this
  exact this
theorem TwinFrom.setS (h : TwinFrom n w T A B t) {i : Nat} (hi : i < 4) (p : Nat) : TwinFrom n (w.setCell ⟨T, 6 + i, none⟩ (.int .i64 p)) T A B { t with S := t.S.set i p } ∧ Chg (· = T) w (w.setCell ⟨T, 6 + i, none⟩ (.int .i64 p)) := by
  obtain ⟨KA, KB, h1, h2, h3, h4⟩ := h
  have hc : Chg (· = T) w (w.setCell ⟨T, 6 + i, none⟩ (.int .i64 p)) := (Chg.refl (· = T) w).setCell (.inl rfl) _
  refine ⟨⟨KA, KB, ⟨?_, h1.hA.chg hc fun k hk _ e => h1.ta (e ▸ hk), h1.hB.chg hc fun k hk _ e => h1.tb (e ▸ hk), h1.ab, h1.ta, h1.tb, h1.rl, by show (t.S.set i p).length = 4; rw [List.length_set]; exact h1.sl⟩, h2, h3, h4⟩, hc⟩
  have := h1.blk.set (6 + i) (.int .i64 p)
  rw [twL_setS h1.rl h1.sl hi] at this
  exact this
/-- Begin makes twins that are good. -/
theorem begin_from (z : Nat) (h0 : 16 ≤ z) (h1 : z ≤ 16384) (n : Nat) (w : World) (hn : n ≤ w.heap.size) :
    Calls Tryz.prog 13 #[.int .i64 z] w fun e w' => ∃ T A B, e = .returned (.pointer (some ⟨T, 0, none⟩)) ∧ TwinFrom n w' T A B ⟨Hp.new z, Hp.new 16000, [0, 0, 0, 0], [0, 0, 0, 0]⟩ ∧ Below n w w' := by
  refine (beginH z h0 h1 w).mono fun e w' ⟨T, A, B, KA, KB, h1, h2, h3, h4, h5, h6, h7, h8, h9, ha, hb⟩ => ⟨T, A, B, h1, ⟨KA, KB, ⟨?_, h3, h4, h7, h8, h9, rfl, rfl⟩, fun k hk => Nat.le_trans hn (h5 k hk), fun k hk => Nat.le_trans hn (h6 k hk), Nat.le_trans hn ha⟩, hb.mono hn⟩
  rw [← twL_zero]; exact h2
end
theorem good_new (q : Bool) {z : Nat} (h0 : 16 ≤ z) (h1 : z ≤ 16384) : Good q z 0 ⟨Hp.new z, Hp.new 16000, [0, 0, 0, 0], [0, 0, 0, 0]⟩ id :=
  ⟨Ok.newOk h0 h1, Ok.newOk (by omega) (by omega), rfl, nil_tw q z 16000 id, rfl, rfl, fun x hx => by simp at hx; exact .inl hx, rfl, rfl, Nat.le_refl _, Nat.le_refl _, Nat.le_refl _, fun _ => rfl⟩

/-- What is asked of a relation between twins, so that they do alike. -/
structure Nice (Gd : Nat → St → Prop) : Prop where
  os : ∀ {m t}, Gd m t → Ok t.s
  or : ∀ {m t}, Gd m t → Ok t.r
  more : ∀ {m t}, Gd m t → ∀ {n}, m ≤ n → Gd n t
  rl : ∀ {m t}, Gd m t → t.R.length = 4
  ri : ∀ {m t}, Gd m t → ∀ x ∈ t.R, x = 0 ∨ x ∈ t.s.pn
  ss : ∀ {m t}, Gd m t → t.s.se ≤ m
  rs : ∀ {m t}, Gd m t → t.r.se ≤ m
  room2 : ∀ {m t}, Gd m t → m ≤ 500 → 28 ≤ t.r.room
  ptrE : ∀ {m t}, Gd m t → ∀ {k : Nat}, k < 4 → ∀ i, t.r.ptrE (t.S.getD k 0) i = t.s.ptrE (t.R.getD k 0) i
  setPtrE : ∀ {m t}, Gd m t → ∀ {k i : Nat}, k < 4 → i < 4 → ∀ j, t.r.setPtrE (t.S.getD k 0) j (t.S.getD i 0) = t.s.setPtrE (t.R.getD k 0) j (t.R.getD i 0)
  setNumE : ∀ {m t}, Gd m t → ∀ {k : Nat}, k < 4 → ∀ i, t.r.setNumE (t.S.getD k 0) i = t.s.setNumE (t.R.getD k 0) i
  frE : ∀ {m t}, Gd m t → ∀ {k : Nat}, k < 4 → t.r.frE (t.S.getD k 0) = t.s.frE (t.R.getD k 0)
  alloc : ∀ {m t}, Gd m t → m ≤ 500 → ∀ {i p d : Nat} {wk fn : Bool}, i < 4 → shB p d wk fn = true → p ≤ 8 → d ≤ 8 → Gd (m + 1) (t.alloc i p d wk fn)
  ptr : ∀ {m t}, Gd m t → ∀ {i k : Nat}, i < 4 → k < 4 → ∀ j, t.strong k → Gd m (t.ptr i k j)
  setPtr : ∀ {m t}, Gd m t → ∀ {i k : Nat}, i < 4 → k < 4 → ∀ j, Gd m (t.setPtr i k j)
  setNum : ∀ {m t}, Gd m t → ∀ {k : Nat}, k < 4 → ∀ j n, Gd m (t.setNum k j n)
  setFr : ∀ {m t}, Gd m t → ∀ {k : Nat}, k < 4 → ∀ tf, Gd m (t.setFr k tf)
  flip : ∀ {m t}, Gd m t → t.s.mv = false → Gd m t.flip
  scan : ∀ {m t}, Gd m t → Gd m t.scan
  fins : ∀ {m t}, Gd m t → Gd m t.fins
  drop : ∀ {m t}, Gd m t → Gd m t.drop
/-- Twins that are alike, one to one. -/
def Ali (q : Bool) (z m : Nat) (t : St) : Prop := ∃ f, Good q z m t f
theorem Ali.os {q : Bool} {z m : Nat} {t : St} (h : Ali q z m t) : Ok t.s := h.elim fun _ g => g.os
theorem Ali.or {q : Bool} {z m : Nat} {t : St} (h : Ali q z m t) : Ok t.r := h.elim fun _ g => g.or
theorem Ali.rl {q : Bool} {z m : Nat} {t : St} (h : Ali q z m t) : t.R.length = 4 := h.elim fun _ g => g.rl
theorem Ali.ri {q : Bool} {z m : Nat} {t : St} (h : Ali q z m t) : ∀ x ∈ t.R, x = 0 ∨ x ∈ t.s.pn := h.elim fun _ g => g.ri
theorem Ali.z0 {q : Bool} {z m : Nat} {t : St} (h : Ali q z m t) : t.s.z = z := h.elim fun _ g => g.z0
theorem ali_new (q : Bool) {z : Nat} (h0 : 16 ≤ z) (h1 : z ≤ 16384) : Ali q z 0 ⟨Hp.new z, Hp.new 16000, [0, 0, 0, 0], [0, 0, 0, 0]⟩ := ⟨id, good_new q h0 h1⟩
theorem nice_ali (q : Bool) (z : Nat) : Nice (Ali q z) where
  os := fun ⟨_, g⟩ => g.os
  or := fun ⟨_, g⟩ => g.or
  more := fun ⟨f, g⟩ _ h => ⟨f, g.more h⟩
  rl := fun ⟨_, g⟩ => g.rl
  ri := fun ⟨_, g⟩ => g.ri
  ss := fun ⟨_, g⟩ => g.ss
  rs := fun ⟨_, g⟩ => g.rs
  room2 := fun ⟨_, g⟩ h => g.room2 h
  ptrE := fun ⟨_, g⟩ _ hk i => g.ptrE hk i
  setPtrE := fun ⟨_, g⟩ _ _ hk hi j => g.setPtrE hk hi j
  setNumE := fun ⟨_, g⟩ _ hk i => g.setNumE hk i
  frE := fun ⟨_, g⟩ _ hk => g.frE hk
  alloc := fun ⟨_, g⟩ hm _ _ _ _ _ hi o1 o2 o3 => g.alloc hm hi o1 o2 o3
  ptr := fun ⟨_, g⟩ _ _ hi hk j h => g.ptr hi hk j h
  setPtr := fun ⟨f, g⟩ _ _ hi hk j => ⟨f, g.setPtr hi hk j⟩
  setNum := fun ⟨f, g⟩ _ hk j n => ⟨f, g.setNum hk j n⟩
  setFr := fun ⟨f, g⟩ _ hk tf => ⟨f, g.setFr hk tf⟩
  flip := fun ⟨_, g⟩ h => g.flip h
  scan := fun ⟨_, g⟩ => g.scan
  fins := fun ⟨_, g⟩ => g.fins
  drop := fun ⟨f, g⟩ => ⟨f, g.drop⟩
/-- What an op's doing leaves. -/
def Did (Gd : Nat → St → Prop) (m n : Nat) (T A B : Nat) (t : St) (kd : Int) (w w' : World) : Prop :=
  ∃ t', TwinFrom n w' T A B t' ∧ Gd (m + 1) t' ∧ Below n w w' ∧ (kd < 9 → t'.s.mv = t.s.mv ∧ ∀ x ∈ t.s.pn, x ∈ t'.s.pn)

end Go.Proofs.YtbjmeibcphmgbaaGreat

namespace Go.Proofs.YtbjmeibcphmgbaaGreat
open Go.ChangeShapes Go.WideShapes Go.ChangeAt Go.RowKit

set_option linter.unusedSimpArgs false
set_option linter.unusedVariables false


set_option maxRecDepth 100000 in
set_option maxHeartbeats 4000000 in
theorem does_0 (o0 : Int) (hK : pickOf o0 13 = 0)
    {Gd : Nat → St → Prop} {m n : Nat} {T A B : Nat} {t : St} {w : World} (N : Nice Gd) (hn : n ≤ w.heap.size) (h : TwinFrom n w T A B t) (g : Gd m t) (hm : m ≤ 500) (o1 o2 o3 o4 o5 o6 o7 : Int)
    (b0 : -9223372036854775808 ≤ o0 ∧ o0 ≤ 9223372036854775807) (b1 : -9223372036854775808 ≤ o1 ∧ o1 ≤ 9223372036854775807) (b2 : -9223372036854775808 ≤ o2 ∧ o2 ≤ 9223372036854775807) (b3 : -9223372036854775808 ≤ o3 ∧ o3 ≤ 9223372036854775807)
    (b4 : -9223372036854775808 ≤ o4 ∧ o4 ≤ 9223372036854775807) (b5 : -9223372036854775808 ≤ o5 ∧ o5 ≤ 9223372036854775807) (b6 : -9223372036854775808 ≤ o6 ∧ o6 ≤ 9223372036854775807) (b7 : -9223372036854775808 ≤ o7 ∧ o7 ≤ 9223372036854775807) :
    Calls Tryz.prog 14 #[.pointer (some ⟨T, 0, none⟩), .agg #[.int .i64 o0, .int .i64 o1, .int .i64 o2, .int .i64 o3, .int .i64 o4, .int .i64 o5, .int .i64 o6, .int .i64 o7]] w fun e w' => e = .returned (.bool true) ∧ Did Gd m n T A B t (pickOf o0 13) w w' := by
  have P1 := fun x => pick_nat o1 4 x b1.1 b1.2 (by omega) (by omega)
  have P2 := fun x => pick_nat o2 4 x b2.1 b2.2 (by omega) (by omega)
  have P3 := fun x => pick_nat o3 9 x b3.1 b3.2 (by omega) (by omega)
  have P0 := fun x => pick_any o0 13 x b0.1 b0.2 (by omega) (by omega)
  have P4 := fun x => pick_any o4 2 x b4.1 b4.2 (by omega) (by omega)
  have ko := BlkIs.new w #[.int .i64 o0, .int .i64 o1, .int .i64 o2, .int .i64 o3, .int .i64 o4, .int .i64 o5, .int .i64 o6, .int .i64 o7] 29
  have hb := (Below.refl w.heap.size w).alloc (Nat.le_refl _) (.cells #[.int .i64 o0, .int .i64 o1, .int .i64 o2, .int .i64 o3, .int .i64 o4, .int .i64 o5, .int .i64 o6, .int .i64 o7] 29)
  have hx := h.on hb
  have hTq : T < w.heap.size := h.lt.1
  rw [hK] at P0 ⊢
  clear hK h
  go_enter Tryz.func14, Tryz.ntmps14
  obtain ⟨c0, c1, c2, c3, c4, c5, c6, c7, -⟩ := ko.facts8
  obtain ⟨Qb, hQb⟩ : ∃ Qb, w.heap.size = Qb := ⟨_, rfl⟩
  go_wp2_with fail
  rw [hQb] at ko hb c0 c1 c2 c3 c4 c5 c6 c7
  obtain ⟨x, hxx⟩ : ∃ x, w.alloc (.cells #[.int .i64 o0, .int .i64 o1, .int .i64 o2, .int .i64 o3, .int .i64 o4, .int .i64 o5, .int .i64 o6, .int .i64 o7] 29) = x := ⟨_, rfl⟩
  rw [hxx] at ko hb hx c0 c1 c2 c3 c4 c5 c6 c7 ⊢
  clear hxx
  refine (P1 _).mono ?_
  rintro e _ ⟨i, hi, rfl, rfl⟩
  go_wp2_with fail
  refine (P2 _).mono ?_
  rintro e _ ⟨k, hk4, rfl, rfl⟩
  go_wp2_with fail
  refine (P3 _).mono ?_
  rintro e _ ⟨j, hj, rfl, rfl⟩
  go_wp2_with fail
  refine (P0 _).mono ?_
  rintro e _ ⟨rfl, rfl⟩
  clear P0 P1 P2 P3
  have hnx : n ≤ x.heap.size := Nat.le_trans hn hb.size
  have hBx : Below n w x := hb.mono (by omega)
  obtain ⟨p, d, wk, fn, hF⟩ := fit_sh o5 o6 o7 b5 b6 b7
  go_wp2_with fail
  refine (hF.tells _).mono ?_
  rintro e y ⟨rfl, hb2⟩
  replace hx := hx.on hb2
  have hny := Nat.le_trans hnx hb2.size
  replace hBx := hBx.trans (hb2.mono hnx)
  clear c0 c1 c2 c3 c4 c5 c6 c7 ko hb hb2 hnx b0 b1 b2 b3 b4 b5 b6 b7
  have ks := BlkIs.new y #[.int .i64 p, .int .i64 d, .bool wk, .bool fn] 45
  have hbs := (Below.refl y.heap.size y).alloc (Nat.le_refl _) (.cells #[.int .i64 p, .int .i64 d, .bool wk, .bool fn] 45)
  replace hx := hx.on hbs
  have hny2 := Nat.le_trans hny hbs.size
  replace hBx := hBx.trans (hbs.mono hny)
  obtain ⟨KA, hKA, -, -, -⟩ := hx.goA hny2
  have MR := roomA hKA (N.os g)
  obtain ⟨cA, cB, -⟩ := hx.cells
  obtain ⟨z, hz⟩ : ∃ z, y.alloc (.cells #[.int .i64 p, .int .i64 d, .bool wk, .bool fn] 45) = z := ⟨_, rfl⟩
  rw [hz] at ks hbs hx hny2 hBx hKA MR cA cB
  clear hbs
  obtain ⟨q8, hq8⟩ : ∃ q8, y.heap.size = q8 := ⟨_, rfl⟩
  rw [hq8] at ks
  have HQ8 := Lib.hid hq8
  go_wp2_with fail
  refine MR.mono ?_
  rintro e z1 ⟨rfl, hb⟩
  replace ks := ks.on hb
  replace hx := hx.on hb
  have hnz := Nat.le_trans hny2 hb.size
  replace hBx := hBx.trans (hb.mono hny2)
  clear cA cB hKA MR hb hny2 hny HQ8 hq8 hz
  by_cases hroom : t.s.room < 32
  · have d32 : decide ((t.s.room : Int) < 32) = true := decide_eq_true (by omega)
    go_wp2
    go_ret
    refine ⟨rfl, t, hx, N.more g (by omega), hBx, fun _ => ⟨rfl, fun _ h => h⟩⟩
  · have d32 : decide ((t.s.room : Int) < 32) = false := decide_eq_false (by omega)
    have hr28 := rd_28 hF.ptrs hF.data
    have hss := (N.ss g)
    have hrs := (N.rs g)
    have hr2 := N.room2 g hm
    have hd := (Below.refl z1.heap.size z1).drew
    obtain ⟨KA, hKA, hKt, hKn, hWA⟩ := (hx.on hd).goA hnz
    have MA := allocA hKA (N.os g) p d wk fn hF.right hF.ptrs hF.data (by omega) (by omega)
    obtain ⟨cA, cB, -⟩ := hx.cells
    have hks := ks.on hd
    go_wp2_with fail
    refine wp_region_held_drew (S := fun y => y.cell? ⟨T, 0, none⟩ = some (.pointer (some ⟨A, 0, none⟩)) ∧ (y.cell? ⟨q8, 0, none⟩ = some (.int .i64 p) ∧ y.cell? ⟨q8, 1, none⟩ = some (.int .i64 d) ∧ y.cell? ⟨q8, 2, none⟩ = some (.bool wk) ∧ y.cell? ⟨q8, 3, none⟩ = some (.bool fn))) (by kernel_rfl) ⟨cA, ks.cell 0, ks.cell 1, ks.cell 2, ks.cell 3⟩ (fun hS => ?_)
    have hc_ : Cnt 0 := trivial
    iterate 5 ((first | (refine takeC hc_ (v := ?_) rfl (by kernel_rfl) (by kernel_rfl) (by kernel_rfl) (fun _ _ _ h => h) (Or.inl ⟨by rfl, ?_⟩) hS ?_; rotate_left; (· (intro y hy; (try dsimp only at hy); go_simp; try with_reducible rfl))) | refine takeC hc_ (v := undef) rfl (by kernel_rfl) (by kernel_rfl) (by kernel_rfl) (fun _ _ _ h => h) (Or.inr ⟨by rfl, rfl⟩) hS ?_); try simp only [Act.put, List.setIfInBounds_toArray, List.set_cons_zero, List.set_cons_succ, List.getElem_toArray, List.append, List.getElem_cons_zero, List.getElem_cons_succ]; replace hc_ := hc_.next; simp only [Nat.reduceAdd] at hc_)
    clear hc_
    refine wpAnyH_ready (rs := [5]) (by kernel_rfl) (by simp) ?_
    refine AllReadyH.cons (o := _) rfl (fun K hK => ?_) AllReadyH.nil
    go_simp
    refine MA.mono ?_
    rintro e z2 ⟨rfl, hW⟩
    obtain ⟨hx2, hB2⟩ := hWA _ _ hW
    replace hks := hW.blk hks (hKt.not hks (by decide) (by decide) (by decide) (by decide))
    obtain ⟨cA2, cB2, -⟩ := hx2.cells
    refine hK.out _ _ (⟨cA2, hks.cell 0, hks.cell 1, hks.cell 2, hks.cell 3⟩) (fun hS => ?_)
    clear hK K
    try simp only [Act.put, List.setIfInBounds_toArray, List.set_cons_zero, List.set_cons_succ]
    have hc_ : Cnt 6 := trivial
    iterate 5 ((first | (refine takeC hc_ (v := ?_) rfl (by kernel_rfl) (by kernel_rfl) (by kernel_rfl) (fun _ _ _ h => h) (Or.inl ⟨by rfl, ?_⟩) hS ?_; rotate_left; (· (intro y hy; (try dsimp only at hy); go_simp; try with_reducible rfl))) | refine takeC hc_ (v := undef) rfl (by kernel_rfl) (by kernel_rfl) (by kernel_rfl) (fun _ _ _ h => h) (Or.inr ⟨by rfl, rfl⟩) hS ?_); try simp only [Act.put, List.setIfInBounds_toArray, List.set_cons_zero, List.set_cons_succ, List.getElem_toArray, List.append, List.getElem_cons_zero, List.getElem_cons_succ]; replace hc_ := hc_.next; simp only [Nat.reduceAdd] at hc_)
    clear hc_
    refine wpAnyH_done (by kernel_rfl) ?_ _
    clear hS MA hW hWA hKA hKt hKn cA cB hd ks
    have hnz2 : n ≤ z2.heap.size := by have := hB2.size; have : z1.drew.heap.size = z1.heap.size := rfl; omega
    replace hB2 := hBx.trans ((Below.refl n z1).drew.trans hB2)
    clear hBx hx hnz
    have hd := (Below.refl z2.heap.size z2).drew
    obtain ⟨KB, hKB, hKt, hKn, hWB⟩ := (hx2.on hd).goB hnz2
    have MB := allocA (s := t.r) hKB (N.or g) p d wk fn hF.right hF.ptrs hF.data (by omega) (by omega)
    have hks2 := hks.on hd
    go_wp2_with fail
    refine wp_region_held_drew (S := fun y => y.cell? ⟨T, 1, none⟩ = some (.pointer (some ⟨B, 0, none⟩)) ∧ (y.cell? ⟨q8, 0, none⟩ = some (.int .i64 p) ∧ y.cell? ⟨q8, 1, none⟩ = some (.int .i64 d) ∧ y.cell? ⟨q8, 2, none⟩ = some (.bool wk) ∧ y.cell? ⟨q8, 3, none⟩ = some (.bool fn))) (by kernel_rfl) ⟨cB2, hks.cell 0, hks.cell 1, hks.cell 2, hks.cell 3⟩ (fun hS => ?_)
    have hc_ : Cnt 0 := trivial
    iterate 5 ((first | (refine takeC hc_ (v := ?_) rfl (by kernel_rfl) (by kernel_rfl) (by kernel_rfl) (fun _ _ _ h => h) (Or.inl ⟨by rfl, ?_⟩) hS ?_; rotate_left; (· (intro y hy; (try dsimp only at hy); go_simp; try with_reducible rfl))) | refine takeC hc_ (v := undef) rfl (by kernel_rfl) (by kernel_rfl) (by kernel_rfl) (fun _ _ _ h => h) (Or.inr ⟨by rfl, rfl⟩) hS ?_); try simp only [Act.put, List.setIfInBounds_toArray, List.set_cons_zero, List.set_cons_succ, List.getElem_toArray, List.append, List.getElem_cons_zero, List.getElem_cons_succ]; replace hc_ := hc_.next; simp only [Nat.reduceAdd] at hc_)
    clear hc_
    refine wpAnyH_ready (rs := [5]) (by kernel_rfl) (by simp) ?_
    refine AllReadyH.cons (o := _) rfl (fun K hK => ?_) AllReadyH.nil
    go_simp
    refine MB.mono ?_
    rintro e z3 ⟨rfl, hW⟩
    obtain ⟨hx3, hB3⟩ := hWB _ _ hW
    replace hks2 := hW.blk hks2 (hKt.not hks2 (by decide) (by decide) (by decide) (by decide))
    obtain ⟨cA3, cB3, -, -, hfz⟩ := hx3.cells
    refine hK.out _ _ (⟨cB3, hks2.cell 0, hks2.cell 1, hks2.cell 2, hks2.cell 3⟩) (fun hS => ?_)
    clear hK K
    try simp only [Act.put, List.setIfInBounds_toArray, List.set_cons_zero, List.set_cons_succ]
    have hc_ : Cnt 6 := trivial
    iterate 5 ((first | (refine takeC hc_ (v := ?_) rfl (by kernel_rfl) (by kernel_rfl) (by kernel_rfl) (fun _ _ _ h => h) (Or.inl ⟨by rfl, ?_⟩) hS ?_; rotate_left; (· (intro y hy; (try dsimp only at hy); go_simp; try with_reducible rfl))) | refine takeC hc_ (v := undef) rfl (by kernel_rfl) (by kernel_rfl) (by kernel_rfl) (fun _ _ _ h => h) (Or.inr ⟨by rfl, rfl⟩) hS ?_); try simp only [Act.put, List.setIfInBounds_toArray, List.set_cons_zero, List.set_cons_succ, List.getElem_toArray, List.append, List.getElem_cons_zero, List.getElem_cons_succ]; replace hc_ := hc_.next; simp only [Nat.reduceAdd] at hc_)
    clear hc_
    refine wpAnyH_done (by kernel_rfl) ?_ _
    clear hS MB hW hWB hKB hKt hKn hd hks hks2 cA2 cB2
    have hnz3 : n ≤ z3.heap.size := by have := hB3.size; have : z2.drew.heap.size = z2.heap.size := rfl; omega
    replace hB3 := hB2.trans ((Below.refl n z2).drew.trans hB3)
    clear hB2 hx2 hnz2
    obtain ⟨-, -, cR, cS, -⟩ := hx3.cells
    obtain ⟨hx4, hc4⟩ := hx3.setR hi t.s.tn
    obtain ⟨hx5, hc5⟩ := hx4.setS hi t.r.tn
    have i0 : (0 : Int) ≤ (i : Int) := by omega
    have i1 : (i : Int) < 4 := by omega
    have cRi := cR i hi
    have cSi := cS i hi
    have fR := hfz (2 + i)
    have fS := hfz (6 + i)
    have hTn := hx3.lt.2
    have hB5 := (hB3.trans (hc4.below (n := n) (fun c e => by omega) hnz3)).trans (hc5.below (n := n) (fun c e => by omega) (by show n ≤ (z3.setCell _ _).heap.size; simpa using hnz3))
    have HX5 := Lib.hid hx5
    have HB5 := Lib.hid hB5
    clear cR cS hfz hx3 hB3 hx4 hx5 hc4 hc5 hB5
    go_wp2_with fail
    go_ret
    have hg' := N.alloc g hm hi hF.right hF.ptrs hF.data
    have hal : t.alloc i p d wk fn = ⟨t.s.lay p d wk fn, t.r.lay p d wk fn, t.R.set i t.s.tn, t.S.set i t.r.tn⟩ := if_neg hroom
    exact ⟨rfl, t.alloc i p d wk fn, by rw [hal]; exact HX5.out, hg', HB5.out, fun _ => by rw [hal]; exact ⟨rfl, fun _ h => List.mem_append_left _ h⟩⟩

set_option maxRecDepth 100000 in
set_option maxHeartbeats 4000000 in
theorem does_1 (o0 : Int) (hK : pickOf o0 13 = 1)
    {Gd : Nat → St → Prop} {m n : Nat} {T A B : Nat} {t : St} {w : World} (N : Nice Gd) (hn : n ≤ w.heap.size) (h : TwinFrom n w T A B t) (g : Gd m t) (hm : m ≤ 500) (o1 o2 o3 o4 o5 o6 o7 : Int)
    (b0 : -9223372036854775808 ≤ o0 ∧ o0 ≤ 9223372036854775807) (b1 : -9223372036854775808 ≤ o1 ∧ o1 ≤ 9223372036854775807) (b2 : -9223372036854775808 ≤ o2 ∧ o2 ≤ 9223372036854775807) (b3 : -9223372036854775808 ≤ o3 ∧ o3 ≤ 9223372036854775807)
    (b4 : -9223372036854775808 ≤ o4 ∧ o4 ≤ 9223372036854775807) (b5 : -9223372036854775808 ≤ o5 ∧ o5 ≤ 9223372036854775807) (b6 : -9223372036854775808 ≤ o6 ∧ o6 ≤ 9223372036854775807) (b7 : -9223372036854775808 ≤ o7 ∧ o7 ≤ 9223372036854775807) :
    Calls Tryz.prog 14 #[.pointer (some ⟨T, 0, none⟩), .agg #[.int .i64 o0, .int .i64 o1, .int .i64 o2, .int .i64 o3, .int .i64 o4, .int .i64 o5, .int .i64 o6, .int .i64 o7]] w fun e w' => e = .returned (.bool true) ∧ Did Gd m n T A B t (pickOf o0 13) w w' := by
  have P1 := fun x => pick_nat o1 4 x b1.1 b1.2 (by omega) (by omega)
  have P2 := fun x => pick_nat o2 4 x b2.1 b2.2 (by omega) (by omega)
  have P3 := fun x => pick_nat o3 9 x b3.1 b3.2 (by omega) (by omega)
  have P0 := fun x => pick_any o0 13 x b0.1 b0.2 (by omega) (by omega)
  have P4 := fun x => pick_any o4 2 x b4.1 b4.2 (by omega) (by omega)
  have ko := BlkIs.new w #[.int .i64 o0, .int .i64 o1, .int .i64 o2, .int .i64 o3, .int .i64 o4, .int .i64 o5, .int .i64 o6, .int .i64 o7] 29
  have hb := (Below.refl w.heap.size w).alloc (Nat.le_refl _) (.cells #[.int .i64 o0, .int .i64 o1, .int .i64 o2, .int .i64 o3, .int .i64 o4, .int .i64 o5, .int .i64 o6, .int .i64 o7] 29)
  have hx := h.on hb
  have hTq : T < w.heap.size := h.lt.1
  rw [hK] at P0 ⊢
  clear hK h
  go_enter Tryz.func14, Tryz.ntmps14
  obtain ⟨c0, c1, c2, c3, c4, c5, c6, c7, -⟩ := ko.facts8
  obtain ⟨Qb, hQb⟩ : ∃ Qb, w.heap.size = Qb := ⟨_, rfl⟩
  go_wp2_with fail
  rw [hQb] at ko hb c0 c1 c2 c3 c4 c5 c6 c7
  obtain ⟨x, hxx⟩ : ∃ x, w.alloc (.cells #[.int .i64 o0, .int .i64 o1, .int .i64 o2, .int .i64 o3, .int .i64 o4, .int .i64 o5, .int .i64 o6, .int .i64 o7] 29) = x := ⟨_, rfl⟩
  rw [hxx] at ko hb hx c0 c1 c2 c3 c4 c5 c6 c7 ⊢
  clear hxx
  refine (P1 _).mono ?_
  rintro e _ ⟨i, hi, rfl, rfl⟩
  go_wp2_with fail
  refine (P2 _).mono ?_
  rintro e _ ⟨k, hk4, rfl, rfl⟩
  go_wp2_with fail
  refine (P3 _).mono ?_
  rintro e _ ⟨j, hj, rfl, rfl⟩
  go_wp2_with fail
  refine (P0 _).mono ?_
  rintro e _ ⟨rfl, rfl⟩
  clear P0 P1 P2 P3
  have hnx : n ≤ x.heap.size := Nat.le_trans hn hb.size
  have hBx : Below n w x := hb.mono (by omega)
  obtain ⟨p, d, wk, fn, hF⟩ := fit_sh o5 o6 o7 b5 b6 b7
  go_wp2_with fail
  refine (hF.tells _).mono ?_
  rintro e y ⟨rfl, hb2⟩
  replace hx := hx.on hb2
  have hny := Nat.le_trans hnx hb2.size
  replace hBx := hBx.trans (hb2.mono hnx)
  clear c0 c1 c2 c3 c4 c5 c6 c7 ko hb hb2 hnx b0 b1 b2 b3 b4 b5 b6 b7
  have ks := BlkIs.new y #[.int .i64 p, .int .i64 d, .bool wk, .bool fn] 45
  have hbs := (Below.refl y.heap.size y).alloc (Nat.le_refl _) (.cells #[.int .i64 p, .int .i64 d, .bool wk, .bool fn] 45)
  replace hx := hx.on hbs
  have hny2 := Nat.le_trans hny hbs.size
  replace hBx := hBx.trans (hbs.mono hny)
  obtain ⟨KA, hKA, -, -, -⟩ := hx.goA hny2
  have MR := roomA hKA (N.os g)
  obtain ⟨cA, cB, -⟩ := hx.cells
  obtain ⟨z, hz⟩ : ∃ z, y.alloc (.cells #[.int .i64 p, .int .i64 d, .bool wk, .bool fn] 45) = z := ⟨_, rfl⟩
  rw [hz] at ks hbs hx hny2 hBx hKA MR cA cB
  clear hbs
  obtain ⟨q8, hq8⟩ : ∃ q8, y.heap.size = q8 := ⟨_, rfl⟩
  rw [hq8] at ks
  have HQ8 := Lib.hid hq8
  go_wp2_with fail
  refine MR.mono ?_
  rintro e z1 ⟨rfl, hb⟩
  replace ks := ks.on hb
  replace hx := hx.on hb
  have hnz := Nat.le_trans hny2 hb.size
  replace hBx := hBx.trans (hb.mono hny2)
  clear cA cB hKA MR hb hny2 hny HQ8 hq8 hz
  by_cases hroom : t.s.room < 32
  · have d32 : decide ((t.s.room : Int) < 32) = true := decide_eq_true (by omega)
    go_wp2
    go_ret
    refine ⟨rfl, t, hx, N.more g (by omega), hBx, fun _ => ⟨rfl, fun _ h => h⟩⟩
  · have d32 : decide ((t.s.room : Int) < 32) = false := decide_eq_false (by omega)
    have hr28 := rd_28 hF.ptrs hF.data
    have hss := (N.ss g)
    have hrs := (N.rs g)
    have hr2 := N.room2 g hm
    have hd := (Below.refl z1.heap.size z1).drew
    obtain ⟨KA, hKA, hKt, hKn, hWA⟩ := (hx.on hd).goA hnz
    have MA := allocA hKA (N.os g) p d wk fn hF.right hF.ptrs hF.data (by omega) (by omega)
    obtain ⟨cA, cB, -⟩ := hx.cells
    have hks := ks.on hd
    go_wp2_with fail
    refine wp_region_held_drew (S := fun y => y.cell? ⟨T, 0, none⟩ = some (.pointer (some ⟨A, 0, none⟩)) ∧ (y.cell? ⟨q8, 0, none⟩ = some (.int .i64 p) ∧ y.cell? ⟨q8, 1, none⟩ = some (.int .i64 d) ∧ y.cell? ⟨q8, 2, none⟩ = some (.bool wk) ∧ y.cell? ⟨q8, 3, none⟩ = some (.bool fn))) (by kernel_rfl) ⟨cA, ks.cell 0, ks.cell 1, ks.cell 2, ks.cell 3⟩ (fun hS => ?_)
    have hc_ : Cnt 0 := trivial
    iterate 5 ((first | (refine takeC hc_ (v := ?_) rfl (by kernel_rfl) (by kernel_rfl) (by kernel_rfl) (fun _ _ _ h => h) (Or.inl ⟨by rfl, ?_⟩) hS ?_; rotate_left; (· (intro y hy; (try dsimp only at hy); go_simp; try with_reducible rfl))) | refine takeC hc_ (v := undef) rfl (by kernel_rfl) (by kernel_rfl) (by kernel_rfl) (fun _ _ _ h => h) (Or.inr ⟨by rfl, rfl⟩) hS ?_); try simp only [Act.put, List.setIfInBounds_toArray, List.set_cons_zero, List.set_cons_succ, List.getElem_toArray, List.append, List.getElem_cons_zero, List.getElem_cons_succ]; replace hc_ := hc_.next; simp only [Nat.reduceAdd] at hc_)
    clear hc_
    refine wpAnyH_ready (rs := [5]) (by kernel_rfl) (by simp) ?_
    refine AllReadyH.cons (o := _) rfl (fun K hK => ?_) AllReadyH.nil
    go_simp
    refine MA.mono ?_
    rintro e z2 ⟨rfl, hW⟩
    obtain ⟨hx2, hB2⟩ := hWA _ _ hW
    replace hks := hW.blk hks (hKt.not hks (by decide) (by decide) (by decide) (by decide))
    obtain ⟨cA2, cB2, -⟩ := hx2.cells
    refine hK.out _ _ (⟨cA2, hks.cell 0, hks.cell 1, hks.cell 2, hks.cell 3⟩) (fun hS => ?_)
    clear hK K
    try simp only [Act.put, List.setIfInBounds_toArray, List.set_cons_zero, List.set_cons_succ]
    have hc_ : Cnt 6 := trivial
    iterate 5 ((first | (refine takeC hc_ (v := ?_) rfl (by kernel_rfl) (by kernel_rfl) (by kernel_rfl) (fun _ _ _ h => h) (Or.inl ⟨by rfl, ?_⟩) hS ?_; rotate_left; (· (intro y hy; (try dsimp only at hy); go_simp; try with_reducible rfl))) | refine takeC hc_ (v := undef) rfl (by kernel_rfl) (by kernel_rfl) (by kernel_rfl) (fun _ _ _ h => h) (Or.inr ⟨by rfl, rfl⟩) hS ?_); try simp only [Act.put, List.setIfInBounds_toArray, List.set_cons_zero, List.set_cons_succ, List.getElem_toArray, List.append, List.getElem_cons_zero, List.getElem_cons_succ]; replace hc_ := hc_.next; simp only [Nat.reduceAdd] at hc_)
    clear hc_
    refine wpAnyH_done (by kernel_rfl) ?_ _
    clear hS MA hW hWA hKA hKt hKn cA cB hd ks
    have hnz2 : n ≤ z2.heap.size := by have := hB2.size; have : z1.drew.heap.size = z1.heap.size := rfl; omega
    replace hB2 := hBx.trans ((Below.refl n z1).drew.trans hB2)
    clear hBx hx hnz
    have hd := (Below.refl z2.heap.size z2).drew
    obtain ⟨KB, hKB, hKt, hKn, hWB⟩ := (hx2.on hd).goB hnz2
    have MB := allocA (s := t.r) hKB (N.or g) p d wk fn hF.right hF.ptrs hF.data (by omega) (by omega)
    have hks2 := hks.on hd
    go_wp2_with fail
    refine wp_region_held_drew (S := fun y => y.cell? ⟨T, 1, none⟩ = some (.pointer (some ⟨B, 0, none⟩)) ∧ (y.cell? ⟨q8, 0, none⟩ = some (.int .i64 p) ∧ y.cell? ⟨q8, 1, none⟩ = some (.int .i64 d) ∧ y.cell? ⟨q8, 2, none⟩ = some (.bool wk) ∧ y.cell? ⟨q8, 3, none⟩ = some (.bool fn))) (by kernel_rfl) ⟨cB2, hks.cell 0, hks.cell 1, hks.cell 2, hks.cell 3⟩ (fun hS => ?_)
    have hc_ : Cnt 0 := trivial
    iterate 5 ((first | (refine takeC hc_ (v := ?_) rfl (by kernel_rfl) (by kernel_rfl) (by kernel_rfl) (fun _ _ _ h => h) (Or.inl ⟨by rfl, ?_⟩) hS ?_; rotate_left; (· (intro y hy; (try dsimp only at hy); go_simp; try with_reducible rfl))) | refine takeC hc_ (v := undef) rfl (by kernel_rfl) (by kernel_rfl) (by kernel_rfl) (fun _ _ _ h => h) (Or.inr ⟨by rfl, rfl⟩) hS ?_); try simp only [Act.put, List.setIfInBounds_toArray, List.set_cons_zero, List.set_cons_succ, List.getElem_toArray, List.append, List.getElem_cons_zero, List.getElem_cons_succ]; replace hc_ := hc_.next; simp only [Nat.reduceAdd] at hc_)
    clear hc_
    refine wpAnyH_ready (rs := [5]) (by kernel_rfl) (by simp) ?_
    refine AllReadyH.cons (o := _) rfl (fun K hK => ?_) AllReadyH.nil
    go_simp
    refine MB.mono ?_
    rintro e z3 ⟨rfl, hW⟩
    obtain ⟨hx3, hB3⟩ := hWB _ _ hW
    replace hks2 := hW.blk hks2 (hKt.not hks2 (by decide) (by decide) (by decide) (by decide))
    obtain ⟨cA3, cB3, -, -, hfz⟩ := hx3.cells
    refine hK.out _ _ (⟨cB3, hks2.cell 0, hks2.cell 1, hks2.cell 2, hks2.cell 3⟩) (fun hS => ?_)
    clear hK K
    try simp only [Act.put, List.setIfInBounds_toArray, List.set_cons_zero, List.set_cons_succ]
    have hc_ : Cnt 6 := trivial
    iterate 5 ((first | (refine takeC hc_ (v := ?_) rfl (by kernel_rfl) (by kernel_rfl) (by kernel_rfl) (fun _ _ _ h => h) (Or.inl ⟨by rfl, ?_⟩) hS ?_; rotate_left; (· (intro y hy; (try dsimp only at hy); go_simp; try with_reducible rfl))) | refine takeC hc_ (v := undef) rfl (by kernel_rfl) (by kernel_rfl) (by kernel_rfl) (fun _ _ _ h => h) (Or.inr ⟨by rfl, rfl⟩) hS ?_); try simp only [Act.put, List.setIfInBounds_toArray, List.set_cons_zero, List.set_cons_succ, List.getElem_toArray, List.append, List.getElem_cons_zero, List.getElem_cons_succ]; replace hc_ := hc_.next; simp only [Nat.reduceAdd] at hc_)
    clear hc_
    refine wpAnyH_done (by kernel_rfl) ?_ _
    clear hS MB hW hWB hKB hKt hKn hd hks hks2 cA2 cB2
    have hnz3 : n ≤ z3.heap.size := by have := hB3.size; have : z2.drew.heap.size = z2.heap.size := rfl; omega
    replace hB3 := hB2.trans ((Below.refl n z2).drew.trans hB3)
    clear hB2 hx2 hnz2
    obtain ⟨-, -, cR, cS, -⟩ := hx3.cells
    obtain ⟨hx4, hc4⟩ := hx3.setR hi t.s.tn
    obtain ⟨hx5, hc5⟩ := hx4.setS hi t.r.tn
    have i0 : (0 : Int) ≤ (i : Int) := by omega
    have i1 : (i : Int) < 4 := by omega
    have cRi := cR i hi
    have cSi := cS i hi
    have fR := hfz (2 + i)
    have fS := hfz (6 + i)
    have hTn := hx3.lt.2
    have hB5 := (hB3.trans (hc4.below (n := n) (fun c e => by omega) hnz3)).trans (hc5.below (n := n) (fun c e => by omega) (by show n ≤ (z3.setCell _ _).heap.size; simpa using hnz3))
    have HX5 := Lib.hid hx5
    have HB5 := Lib.hid hB5
    clear cR cS hfz hx3 hB3 hx4 hx5 hc4 hc5 hB5
    go_wp2_with fail
    go_ret
    have hg' := N.alloc g hm hi hF.right hF.ptrs hF.data
    have hal : t.alloc i p d wk fn = ⟨t.s.lay p d wk fn, t.r.lay p d wk fn, t.R.set i t.s.tn, t.S.set i t.r.tn⟩ := if_neg hroom
    exact ⟨rfl, t.alloc i p d wk fn, by rw [hal]; exact HX5.out, hg', HB5.out, fun _ => by rw [hal]; exact ⟨rfl, fun _ h => List.mem_append_left _ h⟩⟩

set_option maxRecDepth 100000 in
set_option maxHeartbeats 4000000 in
theorem does_2 (o0 : Int) (hK : pickOf o0 13 = 2)
    {Gd : Nat → St → Prop} {m n : Nat} {T A B : Nat} {t : St} {w : World} (N : Nice Gd) (hn : n ≤ w.heap.size) (h : TwinFrom n w T A B t) (g : Gd m t) (hm : m ≤ 500) (o1 o2 o3 o4 o5 o6 o7 : Int)
    (b0 : -9223372036854775808 ≤ o0 ∧ o0 ≤ 9223372036854775807) (b1 : -9223372036854775808 ≤ o1 ∧ o1 ≤ 9223372036854775807) (b2 : -9223372036854775808 ≤ o2 ∧ o2 ≤ 9223372036854775807) (b3 : -9223372036854775808 ≤ o3 ∧ o3 ≤ 9223372036854775807)
    (b4 : -9223372036854775808 ≤ o4 ∧ o4 ≤ 9223372036854775807) (b5 : -9223372036854775808 ≤ o5 ∧ o5 ≤ 9223372036854775807) (b6 : -9223372036854775808 ≤ o6 ∧ o6 ≤ 9223372036854775807) (b7 : -9223372036854775808 ≤ o7 ∧ o7 ≤ 9223372036854775807) :
    Calls Tryz.prog 14 #[.pointer (some ⟨T, 0, none⟩), .agg #[.int .i64 o0, .int .i64 o1, .int .i64 o2, .int .i64 o3, .int .i64 o4, .int .i64 o5, .int .i64 o6, .int .i64 o7]] w fun e w' => e = .returned (.bool true) ∧ Did Gd m n T A B t (pickOf o0 13) w w' := by
  have P1 := fun x => pick_nat o1 4 x b1.1 b1.2 (by omega) (by omega)
  have P2 := fun x => pick_nat o2 4 x b2.1 b2.2 (by omega) (by omega)
  have P3 := fun x => pick_nat o3 9 x b3.1 b3.2 (by omega) (by omega)
  have P0 := fun x => pick_any o0 13 x b0.1 b0.2 (by omega) (by omega)
  have P4 := fun x => pick_any o4 2 x b4.1 b4.2 (by omega) (by omega)
  have ko := BlkIs.new w #[.int .i64 o0, .int .i64 o1, .int .i64 o2, .int .i64 o3, .int .i64 o4, .int .i64 o5, .int .i64 o6, .int .i64 o7] 29
  have hb := (Below.refl w.heap.size w).alloc (Nat.le_refl _) (.cells #[.int .i64 o0, .int .i64 o1, .int .i64 o2, .int .i64 o3, .int .i64 o4, .int .i64 o5, .int .i64 o6, .int .i64 o7] 29)
  have hx := h.on hb
  have hTq : T < w.heap.size := h.lt.1
  rw [hK] at P0 ⊢
  clear hK h
  go_enter Tryz.func14, Tryz.ntmps14
  obtain ⟨c0, c1, c2, c3, c4, c5, c6, c7, -⟩ := ko.facts8
  obtain ⟨Qb, hQb⟩ : ∃ Qb, w.heap.size = Qb := ⟨_, rfl⟩
  go_wp2_with fail
  rw [hQb] at ko hb c0 c1 c2 c3 c4 c5 c6 c7
  obtain ⟨x, hxx⟩ : ∃ x, w.alloc (.cells #[.int .i64 o0, .int .i64 o1, .int .i64 o2, .int .i64 o3, .int .i64 o4, .int .i64 o5, .int .i64 o6, .int .i64 o7] 29) = x := ⟨_, rfl⟩
  rw [hxx] at ko hb hx c0 c1 c2 c3 c4 c5 c6 c7 ⊢
  clear hxx
  refine (P1 _).mono ?_
  rintro e _ ⟨i, hi, rfl, rfl⟩
  go_wp2_with fail
  refine (P2 _).mono ?_
  rintro e _ ⟨k, hk4, rfl, rfl⟩
  go_wp2_with fail
  refine (P3 _).mono ?_
  rintro e _ ⟨j, hj, rfl, rfl⟩
  go_wp2_with fail
  refine (P0 _).mono ?_
  rintro e _ ⟨rfl, rfl⟩
  clear P0 P1 P2 P3
  have hnx : n ≤ x.heap.size := Nat.le_trans hn hb.size
  have hBx : Below n w x := hb.mono (by omega)
  obtain ⟨p, d, wk, fn, hF⟩ := fit_sh o5 o6 o7 b5 b6 b7
  go_wp2_with fail
  refine (hF.tells _).mono ?_
  rintro e y ⟨rfl, hb2⟩
  replace hx := hx.on hb2
  have hny := Nat.le_trans hnx hb2.size
  replace hBx := hBx.trans (hb2.mono hnx)
  clear c0 c1 c2 c3 c4 c5 c6 c7 ko hb hb2 hnx b0 b1 b2 b3 b4 b5 b6 b7
  have ks := BlkIs.new y #[.int .i64 p, .int .i64 d, .bool wk, .bool fn] 45
  have hbs := (Below.refl y.heap.size y).alloc (Nat.le_refl _) (.cells #[.int .i64 p, .int .i64 d, .bool wk, .bool fn] 45)
  replace hx := hx.on hbs
  have hny2 := Nat.le_trans hny hbs.size
  replace hBx := hBx.trans (hbs.mono hny)
  obtain ⟨KA, hKA, -, -, -⟩ := hx.goA hny2
  have MR := roomA hKA (N.os g)
  obtain ⟨cA, cB, -⟩ := hx.cells
  obtain ⟨z, hz⟩ : ∃ z, y.alloc (.cells #[.int .i64 p, .int .i64 d, .bool wk, .bool fn] 45) = z := ⟨_, rfl⟩
  rw [hz] at ks hbs hx hny2 hBx hKA MR cA cB
  clear hbs
  obtain ⟨q8, hq8⟩ : ∃ q8, y.heap.size = q8 := ⟨_, rfl⟩
  rw [hq8] at ks
  have HQ8 := Lib.hid hq8
  go_wp2_with fail
  refine MR.mono ?_
  rintro e z1 ⟨rfl, hb⟩
  replace ks := ks.on hb
  replace hx := hx.on hb
  have hnz := Nat.le_trans hny2 hb.size
  replace hBx := hBx.trans (hb.mono hny2)
  clear cA cB hKA MR hb hny2 hny HQ8 hq8 hz
  by_cases hroom : t.s.room < 32
  · have d32 : decide ((t.s.room : Int) < 32) = true := decide_eq_true (by omega)
    go_wp2
    go_ret
    refine ⟨rfl, t, hx, N.more g (by omega), hBx, fun _ => ⟨rfl, fun _ h => h⟩⟩
  · have d32 : decide ((t.s.room : Int) < 32) = false := decide_eq_false (by omega)
    have hr28 := rd_28 hF.ptrs hF.data
    have hss := (N.ss g)
    have hrs := (N.rs g)
    have hr2 := N.room2 g hm
    have hd := (Below.refl z1.heap.size z1).drew
    obtain ⟨KA, hKA, hKt, hKn, hWA⟩ := (hx.on hd).goA hnz
    have MA := allocA hKA (N.os g) p d wk fn hF.right hF.ptrs hF.data (by omega) (by omega)
    obtain ⟨cA, cB, -⟩ := hx.cells
    have hks := ks.on hd
    go_wp2_with fail
    refine wp_region_held_drew (S := fun y => y.cell? ⟨T, 0, none⟩ = some (.pointer (some ⟨A, 0, none⟩)) ∧ (y.cell? ⟨q8, 0, none⟩ = some (.int .i64 p) ∧ y.cell? ⟨q8, 1, none⟩ = some (.int .i64 d) ∧ y.cell? ⟨q8, 2, none⟩ = some (.bool wk) ∧ y.cell? ⟨q8, 3, none⟩ = some (.bool fn))) (by kernel_rfl) ⟨cA, ks.cell 0, ks.cell 1, ks.cell 2, ks.cell 3⟩ (fun hS => ?_)
    have hc_ : Cnt 0 := trivial
    iterate 5 ((first | (refine takeC hc_ (v := ?_) rfl (by kernel_rfl) (by kernel_rfl) (by kernel_rfl) (fun _ _ _ h => h) (Or.inl ⟨by rfl, ?_⟩) hS ?_; rotate_left; (· (intro y hy; (try dsimp only at hy); go_simp; try with_reducible rfl))) | refine takeC hc_ (v := undef) rfl (by kernel_rfl) (by kernel_rfl) (by kernel_rfl) (fun _ _ _ h => h) (Or.inr ⟨by rfl, rfl⟩) hS ?_); try simp only [Act.put, List.setIfInBounds_toArray, List.set_cons_zero, List.set_cons_succ, List.getElem_toArray, List.append, List.getElem_cons_zero, List.getElem_cons_succ]; replace hc_ := hc_.next; simp only [Nat.reduceAdd] at hc_)
    clear hc_
    refine wpAnyH_ready (rs := [5]) (by kernel_rfl) (by simp) ?_
    refine AllReadyH.cons (o := _) rfl (fun K hK => ?_) AllReadyH.nil
    go_simp
    refine MA.mono ?_
    rintro e z2 ⟨rfl, hW⟩
    obtain ⟨hx2, hB2⟩ := hWA _ _ hW
    replace hks := hW.blk hks (hKt.not hks (by decide) (by decide) (by decide) (by decide))
    obtain ⟨cA2, cB2, -⟩ := hx2.cells
    refine hK.out _ _ (⟨cA2, hks.cell 0, hks.cell 1, hks.cell 2, hks.cell 3⟩) (fun hS => ?_)
    clear hK K
    try simp only [Act.put, List.setIfInBounds_toArray, List.set_cons_zero, List.set_cons_succ]
    have hc_ : Cnt 6 := trivial
    iterate 5 ((first | (refine takeC hc_ (v := ?_) rfl (by kernel_rfl) (by kernel_rfl) (by kernel_rfl) (fun _ _ _ h => h) (Or.inl ⟨by rfl, ?_⟩) hS ?_; rotate_left; (· (intro y hy; (try dsimp only at hy); go_simp; try with_reducible rfl))) | refine takeC hc_ (v := undef) rfl (by kernel_rfl) (by kernel_rfl) (by kernel_rfl) (fun _ _ _ h => h) (Or.inr ⟨by rfl, rfl⟩) hS ?_); try simp only [Act.put, List.setIfInBounds_toArray, List.set_cons_zero, List.set_cons_succ, List.getElem_toArray, List.append, List.getElem_cons_zero, List.getElem_cons_succ]; replace hc_ := hc_.next; simp only [Nat.reduceAdd] at hc_)
    clear hc_
    refine wpAnyH_done (by kernel_rfl) ?_ _
    clear hS MA hW hWA hKA hKt hKn cA cB hd ks
    have hnz2 : n ≤ z2.heap.size := by have := hB2.size; have : z1.drew.heap.size = z1.heap.size := rfl; omega
    replace hB2 := hBx.trans ((Below.refl n z1).drew.trans hB2)
    clear hBx hx hnz
    have hd := (Below.refl z2.heap.size z2).drew
    obtain ⟨KB, hKB, hKt, hKn, hWB⟩ := (hx2.on hd).goB hnz2
    have MB := allocA (s := t.r) hKB (N.or g) p d wk fn hF.right hF.ptrs hF.data (by omega) (by omega)
    have hks2 := hks.on hd
    go_wp2_with fail
    refine wp_region_held_drew (S := fun y => y.cell? ⟨T, 1, none⟩ = some (.pointer (some ⟨B, 0, none⟩)) ∧ (y.cell? ⟨q8, 0, none⟩ = some (.int .i64 p) ∧ y.cell? ⟨q8, 1, none⟩ = some (.int .i64 d) ∧ y.cell? ⟨q8, 2, none⟩ = some (.bool wk) ∧ y.cell? ⟨q8, 3, none⟩ = some (.bool fn))) (by kernel_rfl) ⟨cB2, hks.cell 0, hks.cell 1, hks.cell 2, hks.cell 3⟩ (fun hS => ?_)
    have hc_ : Cnt 0 := trivial
    iterate 5 ((first | (refine takeC hc_ (v := ?_) rfl (by kernel_rfl) (by kernel_rfl) (by kernel_rfl) (fun _ _ _ h => h) (Or.inl ⟨by rfl, ?_⟩) hS ?_; rotate_left; (· (intro y hy; (try dsimp only at hy); go_simp; try with_reducible rfl))) | refine takeC hc_ (v := undef) rfl (by kernel_rfl) (by kernel_rfl) (by kernel_rfl) (fun _ _ _ h => h) (Or.inr ⟨by rfl, rfl⟩) hS ?_); try simp only [Act.put, List.setIfInBounds_toArray, List.set_cons_zero, List.set_cons_succ, List.getElem_toArray, List.append, List.getElem_cons_zero, List.getElem_cons_succ]; replace hc_ := hc_.next; simp only [Nat.reduceAdd] at hc_)
    clear hc_
    refine wpAnyH_ready (rs := [5]) (by kernel_rfl) (by simp) ?_
    refine AllReadyH.cons (o := _) rfl (fun K hK => ?_) AllReadyH.nil
    go_simp
    refine MB.mono ?_
    rintro e z3 ⟨rfl, hW⟩
    obtain ⟨hx3, hB3⟩ := hWB _ _ hW
    replace hks2 := hW.blk hks2 (hKt.not hks2 (by decide) (by decide) (by decide) (by decide))
    obtain ⟨cA3, cB3, -, -, hfz⟩ := hx3.cells
    refine hK.out _ _ (⟨cB3, hks2.cell 0, hks2.cell 1, hks2.cell 2, hks2.cell 3⟩) (fun hS => ?_)
    clear hK K
    try simp only [Act.put, List.setIfInBounds_toArray, List.set_cons_zero, List.set_cons_succ]
    have hc_ : Cnt 6 := trivial
    iterate 5 ((first | (refine takeC hc_ (v := ?_) rfl (by kernel_rfl) (by kernel_rfl) (by kernel_rfl) (fun _ _ _ h => h) (Or.inl ⟨by rfl, ?_⟩) hS ?_; rotate_left; (· (intro y hy; (try dsimp only at hy); go_simp; try with_reducible rfl))) | refine takeC hc_ (v := undef) rfl (by kernel_rfl) (by kernel_rfl) (by kernel_rfl) (fun _ _ _ h => h) (Or.inr ⟨by rfl, rfl⟩) hS ?_); try simp only [Act.put, List.setIfInBounds_toArray, List.set_cons_zero, List.set_cons_succ, List.getElem_toArray, List.append, List.getElem_cons_zero, List.getElem_cons_succ]; replace hc_ := hc_.next; simp only [Nat.reduceAdd] at hc_)
    clear hc_
    refine wpAnyH_done (by kernel_rfl) ?_ _
    clear hS MB hW hWB hKB hKt hKn hd hks hks2 cA2 cB2
    have hnz3 : n ≤ z3.heap.size := by have := hB3.size; have : z2.drew.heap.size = z2.heap.size := rfl; omega
    replace hB3 := hB2.trans ((Below.refl n z2).drew.trans hB3)
    clear hB2 hx2 hnz2
    obtain ⟨-, -, cR, cS, -⟩ := hx3.cells
    obtain ⟨hx4, hc4⟩ := hx3.setR hi t.s.tn
    obtain ⟨hx5, hc5⟩ := hx4.setS hi t.r.tn
    have i0 : (0 : Int) ≤ (i : Int) := by omega
    have i1 : (i : Int) < 4 := by omega
    have cRi := cR i hi
    have cSi := cS i hi
    have fR := hfz (2 + i)
    have fS := hfz (6 + i)
    have hTn := hx3.lt.2
    have hB5 := (hB3.trans (hc4.below (n := n) (fun c e => by omega) hnz3)).trans (hc5.below (n := n) (fun c e => by omega) (by show n ≤ (z3.setCell _ _).heap.size; simpa using hnz3))
    have HX5 := Lib.hid hx5
    have HB5 := Lib.hid hB5
    clear cR cS hfz hx3 hB3 hx4 hx5 hc4 hc5 hB5
    go_wp2_with fail
    go_ret
    have hg' := N.alloc g hm hi hF.right hF.ptrs hF.data
    have hal : t.alloc i p d wk fn = ⟨t.s.lay p d wk fn, t.r.lay p d wk fn, t.R.set i t.s.tn, t.S.set i t.r.tn⟩ := if_neg hroom
    exact ⟨rfl, t.alloc i p d wk fn, by rw [hal]; exact HX5.out, hg', HB5.out, fun _ => by rw [hal]; exact ⟨rfl, fun _ h => List.mem_append_left _ h⟩⟩

end Go.Proofs.YtbjmeibcphmgbaaGreat

namespace Go.Proofs.YtbjmeibcphmgbaaGreat
open Go.ChangeShapes Go.WideShapes Go.ChangeAt Go.RowKit

set_option linter.unusedSimpArgs false
set_option linter.unusedVariables false


set_option maxRecDepth 100000 in
set_option maxHeartbeats 4000000 in
theorem does_3 (o0 : Int) (hK : pickOf o0 13 = 3)
    {Gd : Nat → St → Prop} {m n : Nat} {T A B : Nat} {t : St} {w : World} (N : Nice Gd) (hn : n ≤ w.heap.size) (h : TwinFrom n w T A B t) (g : Gd m t) (hm : m ≤ 500) (o1 o2 o3 o4 o5 o6 o7 : Int)
    (b0 : -9223372036854775808 ≤ o0 ∧ o0 ≤ 9223372036854775807) (b1 : -9223372036854775808 ≤ o1 ∧ o1 ≤ 9223372036854775807) (b2 : -9223372036854775808 ≤ o2 ∧ o2 ≤ 9223372036854775807) (b3 : -9223372036854775808 ≤ o3 ∧ o3 ≤ 9223372036854775807)
    (b4 : -9223372036854775808 ≤ o4 ∧ o4 ≤ 9223372036854775807) (b5 : -9223372036854775808 ≤ o5 ∧ o5 ≤ 9223372036854775807) (b6 : -9223372036854775808 ≤ o6 ∧ o6 ≤ 9223372036854775807) (b7 : -9223372036854775808 ≤ o7 ∧ o7 ≤ 9223372036854775807) :
    Calls Tryz.prog 14 #[.pointer (some ⟨T, 0, none⟩), .agg #[.int .i64 o0, .int .i64 o1, .int .i64 o2, .int .i64 o3, .int .i64 o4, .int .i64 o5, .int .i64 o6, .int .i64 o7]] w fun e w' => e = .returned (.bool true) ∧ Did Gd m n T A B t (pickOf o0 13) w w' := by
  have P1 := fun x => pick_nat o1 4 x b1.1 b1.2 (by omega) (by omega)
  have P2 := fun x => pick_nat o2 4 x b2.1 b2.2 (by omega) (by omega)
  have P3 := fun x => pick_nat o3 9 x b3.1 b3.2 (by omega) (by omega)
  have P0 := fun x => pick_any o0 13 x b0.1 b0.2 (by omega) (by omega)
  have P4 := fun x => pick_any o4 2 x b4.1 b4.2 (by omega) (by omega)
  have ko := BlkIs.new w #[.int .i64 o0, .int .i64 o1, .int .i64 o2, .int .i64 o3, .int .i64 o4, .int .i64 o5, .int .i64 o6, .int .i64 o7] 29
  have hb := (Below.refl w.heap.size w).alloc (Nat.le_refl _) (.cells #[.int .i64 o0, .int .i64 o1, .int .i64 o2, .int .i64 o3, .int .i64 o4, .int .i64 o5, .int .i64 o6, .int .i64 o7] 29)
  have hx := h.on hb
  have hTq : T < w.heap.size := h.lt.1
  rw [hK] at P0 ⊢
  clear hK h
  go_enter Tryz.func14, Tryz.ntmps14
  obtain ⟨c0, c1, c2, c3, c4, c5, c6, c7, -⟩ := ko.facts8
  obtain ⟨Qb, hQb⟩ : ∃ Qb, w.heap.size = Qb := ⟨_, rfl⟩
  go_wp2_with fail
  rw [hQb] at ko hb c0 c1 c2 c3 c4 c5 c6 c7
  obtain ⟨x, hxx⟩ : ∃ x, w.alloc (.cells #[.int .i64 o0, .int .i64 o1, .int .i64 o2, .int .i64 o3, .int .i64 o4, .int .i64 o5, .int .i64 o6, .int .i64 o7] 29) = x := ⟨_, rfl⟩
  rw [hxx] at ko hb hx c0 c1 c2 c3 c4 c5 c6 c7 ⊢
  clear hxx
  refine (P1 _).mono ?_
  rintro e _ ⟨i, hi, rfl, rfl⟩
  go_wp2_with fail
  refine (P2 _).mono ?_
  rintro e _ ⟨k, hk4, rfl, rfl⟩
  go_wp2_with fail
  refine (P3 _).mono ?_
  rintro e _ ⟨j, hj, rfl, rfl⟩
  go_wp2_with fail
  refine (P0 _).mono ?_
  rintro e _ ⟨rfl, rfl⟩
  clear P0 P1 P2 P3
  have hnx : n ≤ x.heap.size := Nat.le_trans hn hb.size
  have hBx : Below n w x := hb.mono (by omega)
  obtain ⟨cA, cB, cR, cS, -⟩ := hx.cells
  have k0 : (0 : Int) ≤ (k : Int) := by omega
  have k1 : (k : Int) < 4 := by omega
  have cSk := cS k hk4
  have cRk := cR k hk4
  clear cR cS
  have HSh : ∃ (p d : Nat) (wk fn fr : Bool) (e : Int), (∀ y, Below x.heap.size x y → Calls Tryz.prog 30 #[.pointer (some ⟨B, 0, none⟩), .int .i64 (t.S.getD k 0 : Nat)] y fun r y' => r = .returned (.tuple #[shV p d wk fn, .bool fr, .int .i64 e]) ∧ Below y.heap.size y y') ∧
      (e = 70 ∨ (e = 0 ∧ t.S.getD k 0 ∈ t.r.pn ∧ hw (hdW t.r.l (t.S.getD k 0)) = wk)) := by
    by_cases hin : t.S.getD k 0 ∈ t.r.pn
    · refine ⟨hp (hdW t.r.l (t.S.getD k 0)), hd (hdW t.r.l (t.S.getD k 0)), hw (hdW t.r.l (t.S.getD k 0)), hf (hdW t.r.l (t.S.getD k 0)), hr (hdW t.r.l (t.S.getD k 0)), 0, fun y hy => ?_, .inr ⟨rfl, hin, rfl⟩⟩
      obtain ⟨K, hK, -⟩ := (hx.on hy).goB (Nat.le_trans hnx hy.size)
      exact shapeA_yes hK (N.or g) _ hin
    · refine ⟨0, 0, false, false, false, 70, fun y hy => ?_, .inl rfl⟩
      obtain ⟨K, hK, -⟩ := (hx.on hy).goB (Nat.le_trans hnx hy.size)
      exact shapeH_no hK (N.or g).sound _ fun e => hin (mem_nums.1 e)
  obtain ⟨p, d, wk, fn, fr, ec, MS, hec⟩ := HSh
  have HEC := Lib.hid hec
  clear hec
  have HSk : Hid (∀ y, Below x.heap.size x y → y.cell? ⟨T, 1, none⟩ = some (.pointer (some ⟨B, 0, none⟩)) ∧ y.cell? ⟨T, 6 + k, none⟩ = some (.int .i64 (t.S.getD k 0 : Nat)) ∧ Below x.heap.size x y) := Lib.hid fun y hb => ⟨(hb.cell (p := ⟨T, 1, none⟩) hx.lt.1).trans cB, (hb.cell (p := ⟨T, 6 + k, none⟩) hx.lt.1).trans cSk, hb⟩
  go_upto_region 21 with fail
  go_cut [13, 14, 15] from 21 to 313 (fun s13 s14 s15 wx => ∃ g : Nat, s13 = .pointer (some ⟨g, 0, none⟩) ∧ BlkIs wx g #[.int .i64 p, .int .i64 d, .bool wk, .bool fn] 45 ∧ s14 = .bool fr ∧ s15 = .int .i64 ec ∧ Below x.heap.size x wx)
  case first =>
    refine wp_region_noPanic ?_
    refine wp_region_held_drew (S := fun y => y.cell? ⟨T, 1, none⟩ = some (.pointer (some ⟨B, 0, none⟩)) ∧ y.cell? ⟨T, 6 + k, none⟩ = some (.int .i64 (t.S.getD k 0 : Nat)) ∧ Below x.heap.size x y) (by kernel_rfl) ⟨cB, cSk, (Below.refl _ _).drew⟩ (fun hS => ?_)
    have hc_ : Cnt 0 := trivial
    iterate 10 ((first | (refine takeC hc_ (v := ?_) rfl (by kernel_rfl) (by kernel_rfl) (by kernel_rfl) (fun _ _ _ h => h) (Or.inl ⟨by rfl, ?_⟩) hS ?_; rotate_left; (· (intro y hy; (try dsimp only at hy); go_simp; try with_reducible rfl))) | refine takeC hc_ (v := undef) rfl (by kernel_rfl) (by kernel_rfl) (by kernel_rfl) (fun _ _ _ h => h) (Or.inr ⟨by rfl, rfl⟩) hS ?_); try simp only [Act.put, List.setIfInBounds_toArray, List.set_cons_zero, List.set_cons_succ, List.getElem_toArray, List.append, List.getElem_cons_zero, List.getElem_cons_succ]; replace hc_ := hc_.next; simp only [Nat.reduceAdd] at hc_)
    clear hc_
    refine wpAnyH_ready (rs := [10, 15]) (by kernel_rfl) (by simp) ?_
    refine AllReadyH.cons (o := _) rfl (fun K hK => ?_) (AllReadyH.cons (o := _) rfl (fun K hK => ?_) AllReadyH.nil)
    · go_simp
      refine (MS _ hS.2.2).mono ?_
      rintro e y ⟨rfl, hb2⟩
      have hb3 := hS.2.2.trans (hb2.mono hS.2.2.size)
      refine hK.out _ _ (HSk.out _ hb3) (fun hS => ?_)
      clear hK K
      try simp only [Act.put, List.setIfInBounds_toArray, List.set_cons_zero, List.set_cons_succ]
      have hc_ : Cnt 11 := trivial
      iterate 4 ((first | (refine takeC hc_ (v := ?_) rfl (by kernel_rfl) (by kernel_rfl) (by kernel_rfl) (fun _ _ _ h => h) (Or.inl ⟨by rfl, ?_⟩) hS ?_; rotate_left; (· (intro y hy; (try dsimp only at hy); go_simp; try with_reducible rfl))) | refine takeC hc_ (v := undef) rfl (by kernel_rfl) (by kernel_rfl) (by kernel_rfl) (fun _ _ _ h => h) (Or.inr ⟨by rfl, rfl⟩) hS ?_); try simp only [Act.put, List.setIfInBounds_toArray, List.set_cons_zero, List.set_cons_succ, List.getElem_toArray, List.append, List.getElem_cons_zero, List.getElem_cons_succ]; replace hc_ := hc_.next; simp only [Nat.reduceAdd] at hc_)
      clear hc_
      refine wpAnyH_ready (rs := [15]) (by kernel_rfl) (by simp) ?_
      refine AllReadyH.cons (o := _) rfl (fun K hK => ?_) AllReadyH.nil
      go_simp
      refine hK.out _ _ (HSk.out _ (hb3.alloc hb3.size (.cells #[.int .i64 0, .int .i64 0, .bool false, .bool false] 45))) (fun hS => ?_)
      clear hK K
      try simp only [Act.put, List.setIfInBounds_toArray, List.set_cons_zero, List.set_cons_succ]
      refine wpAnyH_ready (rs := [16]) (by kernel_rfl) (by simp) ?_
      refine AllReadyH.cons (o := _) rfl (fun K hK => ?_) AllReadyH.nil
      go_simp
      refine hK.out _ _ (HSk.out _ (hb3.alloc hb3.size (.cells #[.int .i64 p, .int .i64 d, .bool wk, .bool fn] 45))) (fun hS => ?_)
      clear hK K
      try simp only [Act.put, List.setIfInBounds_toArray, List.set_cons_zero, List.set_cons_succ]
      have hc_ : Cnt 17 := trivial
      iterate 2 ((first | (refine takeC hc_ (v := ?_) rfl (by kernel_rfl) (by kernel_rfl) (by kernel_rfl) (fun _ _ _ h => h) (Or.inl ⟨by rfl, ?_⟩) hS ?_; rotate_left; (· (intro y hy; (try dsimp only at hy); go_simp; try with_reducible rfl))) | refine takeC hc_ (v := undef) rfl (by kernel_rfl) (by kernel_rfl) (by kernel_rfl) (fun _ _ _ h => h) (Or.inr ⟨by rfl, rfl⟩) hS ?_); try simp only [Act.put, List.setIfInBounds_toArray, List.set_cons_zero, List.set_cons_succ, List.getElem_toArray, List.append, List.getElem_cons_zero, List.getElem_cons_succ]; replace hc_ := hc_.next; simp only [Nat.reduceAdd] at hc_)
      clear hc_
      refine wpAnyH_done (by kernel_rfl) ?_ _
      refine NoPanic.normal ?_
      go_wp2_with fail
      go_meet
      exact ⟨_, rfl, BlkIs.new y _ _, rfl, rfl, hS.2.2⟩
    · go_simp
      have hk : BlkIs _ x.heap.size _ _ := BlkIs.new x.drew #[.int .i64 0, .int .i64 0, .bool false, .bool false] 45
      have hb3 := hS.2.2.alloc hS.2.2.size (.cells #[.int .i64 0, .int .i64 0, .bool false, .bool false] 45)
      refine hK.out _ _ (HSk.out _ hb3) (fun hS => ?_)
      clear hK K
      try simp only [Act.put, List.setIfInBounds_toArray, List.set_cons_zero, List.set_cons_succ]
      refine wpAnyH_ready (rs := [10]) (by kernel_rfl) (by simp) ?_
      refine AllReadyH.cons (o := _) rfl (fun K hK => ?_) AllReadyH.nil
      go_simp
      refine (MS _ hS.2.2).mono ?_
      rintro e y ⟨rfl, hb2⟩
      replace hk := hk.more hb2 (by simp)
      replace hb3 := hb3.trans (hb2.mono hb3.size)
      refine hK.out _ _ (HSk.out _ hb3) (fun hS => ?_)
      clear hK K
      try simp only [Act.put, List.setIfInBounds_toArray, List.set_cons_zero, List.set_cons_succ]
      have hc_ : Cnt 11 := trivial
      iterate 4 ((first | (refine takeC hc_ (v := ?_) rfl (by kernel_rfl) (by kernel_rfl) (by kernel_rfl) (fun _ _ _ h => h) (Or.inl ⟨by rfl, ?_⟩) hS ?_; rotate_left; (· (intro y hy; (try dsimp only at hy); go_simp; try with_reducible rfl))) | refine takeC hc_ (v := undef) rfl (by kernel_rfl) (by kernel_rfl) (by kernel_rfl) (fun _ _ _ h => h) (Or.inr ⟨by rfl, rfl⟩) hS ?_); try simp only [Act.put, List.setIfInBounds_toArray, List.set_cons_zero, List.set_cons_succ, List.getElem_toArray, List.append, List.getElem_cons_zero, List.getElem_cons_succ]; replace hc_ := hc_.next; simp only [Nat.reduceAdd] at hc_)
      clear hc_
      obtain ⟨⟨e0, e1, e2, e3⟩, f0, f1, f2, f3, l1⟩ := BlkIs.facts4 hk
      refine wpAnyH_ready (rs := [16]) (by kernel_rfl) (by simp) ?_
      refine AllReadyH.cons (o := _) rfl (fun K hK => ?_) AllReadyH.nil
      go_simp
      refine hK.out _ _ (HSk.out _ ((((hb3.setCell (p := ⟨x.heap.size, 0, none⟩) (Nat.le_refl _) (.int .i64 p)).setCell (p := ⟨x.heap.size, 1, none⟩) (Nat.le_refl _) (.int .i64 d)).setCell (p := ⟨x.heap.size, 2, none⟩) (Nat.le_refl _) (.bool wk)).setCell (p := ⟨x.heap.size, 3, none⟩) (Nat.le_refl _) (.bool fn))) (fun hS => ?_)
      clear hK K
      try simp only [Act.put, List.setIfInBounds_toArray, List.set_cons_zero, List.set_cons_succ]
      have hc_ : Cnt 17 := trivial
      iterate 2 ((first | (refine takeC hc_ (v := ?_) rfl (by kernel_rfl) (by kernel_rfl) (by kernel_rfl) (fun _ _ _ h => h) (Or.inl ⟨by rfl, ?_⟩) hS ?_; rotate_left; (· (intro y hy; (try dsimp only at hy); go_simp; try with_reducible rfl))) | refine takeC hc_ (v := undef) rfl (by kernel_rfl) (by kernel_rfl) (by kernel_rfl) (fun _ _ _ h => h) (Or.inr ⟨by rfl, rfl⟩) hS ?_); try simp only [Act.put, List.setIfInBounds_toArray, List.set_cons_zero, List.set_cons_succ, List.getElem_toArray, List.append, List.getElem_cons_zero, List.getElem_cons_succ]; replace hc_ := hc_.next; simp only [Nat.reduceAdd] at hc_)
      clear hc_
      refine wpAnyH_done (by kernel_rfl) ?_ _
      refine NoPanic.normal ?_
      go_wp2_with fail
      go_meet
      exact ⟨_, rfl, (((hk.set 0 (.int .i64 p)).set 1 (.int .i64 d)).set 2 (.bool wk)).set 3 (.bool fn), rfl, rfl, hS.2.2⟩
  case rest =>
    obtain ⟨q13, rfl, k13, rfl, rfl, hb⟩ := hcut
    replace hx := hx.on hb
    have hnw := Nat.le_trans hnx hb.size
    replace hBx := hBx.trans (hb.mono hnx)
    have HD : ∀ kd y, TwinFrom n y T A B t → Below n w y → Did Gd m n T A B t kd w y := fun kd y h1 h2 => ⟨t, h1, N.more g (by omega), h2, fun _ => ⟨rfl, fun _ h => h⟩⟩
    have HD := Lib.hid fun kd => HD kd _ hx hBx
    obtain ⟨⟨e0, e1, e2, e3⟩, -⟩ := k13.facts4
    clear MS cA cB cSk cRk HSk hb c0 c1 c2 c3 c4 c5 c6 c7 ko k13 hTq
    rcases HEC.out with rfl | ⟨rfl, hin, hwk⟩
    · go_wp2
      go_ret
      exact ⟨rfl, HD.out _⟩
    · cases wk with
      | true =>
        go_wp2
        go_ret
        exact ⟨rfl, HD.out _⟩
      | false =>
        have HG : Hid (Gd m (t.ptr i k j)) := Lib.hid (N.ptr g hi hk4 j ⟨hin, hwk⟩)
        clear HD hnx hwk hin HEC b0 b1 b2 b3 b4 b5 b6 b7 P4 hn
        have hd := (Below.refl wc.heap.size wc).drew
        obtain ⟨KA, hKA, -, -, hWA⟩ := (hx.on hd).goA hnw
        have MA := ptrA hKA (N.os g) (t.R.getD k 0) j (by omega)
        have MBf := fun KB (y : World) (hKB : HeapAt y KB B t.r) => ptrA hKB (N.or g) (t.S.getD k 0) j (by omega)
        rw [N.ptrE g hk4 j] at MBf
        have HPN : Hid ((t.ptr i k j).s.mv = t.s.mv ∧ ∀ x ∈ t.s.pn, x ∈ (t.ptr i k j).s.pn) := Lib.hid (by
          show (t.s.ptrS _ _).mv = t.s.mv ∧ ∀ x ∈ t.s.pn, x ∈ (t.s.ptrS _ _).pn
          unfold Hp.ptrS
          split
          · exact ⟨(moved_same t.s _).2.1, fun x hx => moved_pn t.s _ hx⟩
          · exact ⟨rfl, fun _ h => h⟩)
        obtain ⟨s', hs'⟩ : ∃ s', t.s.ptrS (t.R.getD k 0) j = s' := ⟨_, rfl⟩
        obtain ⟨r', hr'⟩ : ∃ r', t.r.ptrS (t.S.getD k 0) j = r' := ⟨_, rfl⟩
        obtain ⟨v, hv⟩ : ∃ v, t.s.ptrV (t.R.getD k 0) j = v := ⟨_, rfl⟩
        obtain ⟨u, hu⟩ : ∃ u, t.r.ptrV (t.S.getD k 0) j = u := ⟨_, rfl⟩
        obtain ⟨E, hE⟩ : ∃ E, t.s.ptrE (t.R.getD k 0) j = E := ⟨_, rfl⟩
        have HAL : Hid (t.ptr i k j = ⟨s', r', if E = 0 then t.R.set i v else t.R, if E = 0 then t.S.set i u else t.S⟩) := Lib.hid (by unfold St.ptr; rw [hs', hr', hv, hu, hE])
        rw [hs', hv, hE] at MA
        rw [hr', hu, hE] at MBf
        obtain ⟨cA, cB, cR, cS, -⟩ := hx.cells
        have cRk := cR k hk4
        obtain ⟨ra, hra⟩ : ∃ ra, t.R.getD k 0 = ra := ⟨_, rfl⟩
        obtain ⟨rb, hrb⟩ : ∃ rb, t.S.getD k 0 = rb := ⟨_, rfl⟩
        rw [hra] at MA cRk
        rw [hrb] at MBf
        have HRA := Lib.hid hra
        have HRB := Lib.hid hrb
        have MBf := Lib.hid MBf
        clear cR cS hs' hr' hv hu hE hra hrb
        go_wp2_with fail
        refine wp_region_held_drew (S := fun y => y.cell? ⟨T, 0, none⟩ = some (.pointer (some ⟨A, 0, none⟩)) ∧ y.cell? ⟨T, 2 + k, none⟩ = some (.int .i64 ra)) (by kernel_rfl) ⟨cA, cRk⟩ (fun hS => ?_)
        have hc_ : Cnt 0 := trivial
        iterate 11 ((first | (refine takeC hc_ (v := ?_) rfl (by kernel_rfl) (by kernel_rfl) (by kernel_rfl) (fun _ _ _ h => h) (Or.inl ⟨by rfl, ?_⟩) hS ?_; rotate_left; (· (intro y hy; (try dsimp only at hy); go_simp; try with_reducible rfl))) | refine takeC hc_ (v := undef) rfl (by kernel_rfl) (by kernel_rfl) (by kernel_rfl) (fun _ _ _ h => h) (Or.inr ⟨by rfl, rfl⟩) hS ?_); try simp only [Act.put, List.setIfInBounds_toArray, List.set_cons_zero, List.set_cons_succ, List.getElem_toArray, List.append, List.getElem_cons_zero, List.getElem_cons_succ]; replace hc_ := hc_.next; simp only [Nat.reduceAdd] at hc_)
        clear hc_
        refine wpAnyH_ready (rs := [11]) (by kernel_rfl) (by simp) ?_
        refine AllReadyH.cons (o := _) rfl (fun K hK => ?_) AllReadyH.nil
        go_simp
        refine MA.mono ?_
        rintro e z2 ⟨rfl, hW⟩
        obtain ⟨hx2, hB2⟩ := hWA _ _ hW
        obtain ⟨cA2, cB2, cR2, cS2, -⟩ := hx2.cells
        have cRk2 : z2.cell? ⟨T, 2 + k, none⟩ = some (.int .i64 ra) := by rw [← HRA.out]; exact cR2 k hk4
        have cSk2 : z2.cell? ⟨T, 6 + k, none⟩ = some (.int .i64 rb) := by rw [← HRB.out]; exact cS2 k hk4
        clear cR2 cS2
        refine hK.out _ _ (⟨cA2, cRk2⟩) (fun hS => ?_)
        clear hK K
        try simp only [Act.put, List.setIfInBounds_toArray, List.set_cons_zero, List.set_cons_succ]
        have hc_ : Cnt 12 := trivial
        iterate 5 ((first | (refine takeC hc_ (v := ?_) rfl (by kernel_rfl) (by kernel_rfl) (by kernel_rfl) (fun _ _ _ h => h) (Or.inl ⟨by rfl, ?_⟩) hS ?_; rotate_left; (· (intro y hy; (try dsimp only at hy); go_simp; try with_reducible rfl))) | refine takeC hc_ (v := undef) rfl (by kernel_rfl) (by kernel_rfl) (by kernel_rfl) (fun _ _ _ h => h) (Or.inr ⟨by rfl, rfl⟩) hS ?_); try simp only [Act.put, List.setIfInBounds_toArray, List.set_cons_zero, List.set_cons_succ, List.getElem_toArray, List.append, List.getElem_cons_zero, List.getElem_cons_succ]; replace hc_ := hc_.next; simp only [Nat.reduceAdd] at hc_)
        clear hc_
        refine wpAnyH_done (by kernel_rfl) ?_ _
        clear hS MA hW hWA hKA cA cB cRk hd
        have hnz2 : n ≤ z2.heap.size := by have := hB2.size; have : wc.drew.heap.size = wc.heap.size := rfl; omega
        replace hB2 := hBx.trans ((Below.refl n wc).drew.trans hB2)
        clear hBx hx hnw
        have hd := (Below.refl z2.heap.size z2).drew
        obtain ⟨KB, hKB, -, -, hWB⟩ := (hx2.on hd).goB hnz2
        have MB := MBf.out KB _ hKB
        go_wp2_with fail
        refine wp_region_held_drew (S := fun y => y.cell? ⟨T, 1, none⟩ = some (.pointer (some ⟨B, 0, none⟩)) ∧ y.cell? ⟨T, 6 + k, none⟩ = some (.int .i64 rb)) (by kernel_rfl) ⟨cB2, cSk2⟩ (fun hS => ?_)
        have hc_ : Cnt 0 := trivial
        iterate 11 ((first | (refine takeC hc_ (v := ?_) rfl (by kernel_rfl) (by kernel_rfl) (by kernel_rfl) (fun _ _ _ h => h) (Or.inl ⟨by rfl, ?_⟩) hS ?_; rotate_left; (· (intro y hy; (try dsimp only at hy); go_simp; try with_reducible rfl))) | refine takeC hc_ (v := undef) rfl (by kernel_rfl) (by kernel_rfl) (by kernel_rfl) (fun _ _ _ h => h) (Or.inr ⟨by rfl, rfl⟩) hS ?_); try simp only [Act.put, List.setIfInBounds_toArray, List.set_cons_zero, List.set_cons_succ, List.getElem_toArray, List.append, List.getElem_cons_zero, List.getElem_cons_succ]; replace hc_ := hc_.next; simp only [Nat.reduceAdd] at hc_)
        clear hc_
        refine wpAnyH_ready (rs := [11]) (by kernel_rfl) (by simp) ?_
        refine AllReadyH.cons (o := _) rfl (fun K hK => ?_) AllReadyH.nil
        go_simp
        refine MB.mono ?_
        rintro e z3 ⟨rfl, hW⟩
        obtain ⟨hx3, hB3⟩ := hWB _ _ hW
        obtain ⟨cA3, cB3, cR3, cS3, hfz⟩ := hx3.cells
        have cSk3 : z3.cell? ⟨T, 6 + k, none⟩ = some (.int .i64 rb) := by rw [← HRB.out]; exact cS3 k hk4
        refine hK.out _ _ (⟨cB3, cSk3⟩) (fun hS => ?_)
        clear hK K
        try simp only [Act.put, List.setIfInBounds_toArray, List.set_cons_zero, List.set_cons_succ]
        have hc_ : Cnt 12 := trivial
        iterate 5 ((first | (refine takeC hc_ (v := ?_) rfl (by kernel_rfl) (by kernel_rfl) (by kernel_rfl) (fun _ _ _ h => h) (Or.inl ⟨by rfl, ?_⟩) hS ?_; rotate_left; (· (intro y hy; (try dsimp only at hy); go_simp; try with_reducible rfl))) | refine takeC hc_ (v := undef) rfl (by kernel_rfl) (by kernel_rfl) (by kernel_rfl) (fun _ _ _ h => h) (Or.inr ⟨by rfl, rfl⟩) hS ?_); try simp only [Act.put, List.setIfInBounds_toArray, List.set_cons_zero, List.set_cons_succ, List.getElem_toArray, List.append, List.getElem_cons_zero, List.getElem_cons_succ]; replace hc_ := hc_.next; simp only [Nat.reduceAdd] at hc_)
        clear hc_
        refine wpAnyH_done (by kernel_rfl) ?_ _
        clear hS MB hW hWB hKB hd cA2 cB2 cRk2 cSk2
        have hnz3 : n ≤ z3.heap.size := by have := hB3.size; have : z2.drew.heap.size = z2.heap.size := rfl; omega
        replace hB3 := hB2.trans ((Below.refl n z2).drew.trans hB3)
        clear hB2 hx2 hnz2
        have dEE : ((E : Int) == (E : Int)) = true := by simp
        by_cases hE0 : E = 0
        · have dE : ((E : Int) == 0) = true := by simp [hE0]
          obtain ⟨hx4, hc4⟩ := hx3.setR hi v
          obtain ⟨hx5, hc5⟩ := hx4.setS hi u
          have i0 : (0 : Int) ≤ (i : Int) := by omega
          have i1 : (i : Int) < 4 := by omega
          have cRi := cR3 i hi
          have cSi := cS3 i hi
          have fR := hfz (2 + i)
          have fS := hfz (6 + i)
          have hTn := hx3.lt.2
          have hB5 := (hB3.trans (hc4.below (n := n) (fun c e => by omega) hnz3)).trans (hc5.below (n := n) (fun c e => by omega) (by show n ≤ (z3.setCell _ _).heap.size; simpa using hnz3))
          rw [if_pos hE0, if_pos hE0] at HAL
          have HX5 : Hid (TwinFrom n _ T A B (t.ptr i k j)) := Lib.hid (by rw [HAL.out]; exact hx5)
          have HB5 := Lib.hid hB5
          have HE := Lib.hid hE0
          clear cR3 cS3 hfz hx3 hB3 hx4 hx5 hc4 hc5 hB5 HAL hE0
          go_wp2_with fail
          go_ret
          have hg' := HG.out
          exact ⟨rfl, t.ptr i k j, HX5.out, N.more hg' (by omega), HB5.out, fun _ => HPN.out⟩
        · have dE : ((E : Int) == 0) = false := by simp [hE0]
          rw [if_neg hE0, if_neg hE0] at HAL
          have HX5 : Hid (TwinFrom n _ T A B (t.ptr i k j)) := Lib.hid (by rw [HAL.out]; exact hx3)
          have HB5 := Lib.hid hB3
          clear cR3 cS3 hfz hx3 hB3 HAL hE0
          go_wp2_with fail
          go_ret
          have hg' := HG.out
          exact ⟨rfl, t.ptr i k j, HX5.out, N.more hg' (by omega), HB5.out, fun _ => HPN.out⟩

set_option maxRecDepth 100000 in
set_option maxHeartbeats 4000000 in
theorem does_4 (o0 : Int) (hK : pickOf o0 13 = 4)
    {Gd : Nat → St → Prop} {m n : Nat} {T A B : Nat} {t : St} {w : World} (N : Nice Gd) (hn : n ≤ w.heap.size) (h : TwinFrom n w T A B t) (g : Gd m t) (hm : m ≤ 500) (o1 o2 o3 o4 o5 o6 o7 : Int)
    (b0 : -9223372036854775808 ≤ o0 ∧ o0 ≤ 9223372036854775807) (b1 : -9223372036854775808 ≤ o1 ∧ o1 ≤ 9223372036854775807) (b2 : -9223372036854775808 ≤ o2 ∧ o2 ≤ 9223372036854775807) (b3 : -9223372036854775808 ≤ o3 ∧ o3 ≤ 9223372036854775807)
    (b4 : -9223372036854775808 ≤ o4 ∧ o4 ≤ 9223372036854775807) (b5 : -9223372036854775808 ≤ o5 ∧ o5 ≤ 9223372036854775807) (b6 : -9223372036854775808 ≤ o6 ∧ o6 ≤ 9223372036854775807) (b7 : -9223372036854775808 ≤ o7 ∧ o7 ≤ 9223372036854775807) :
    Calls Tryz.prog 14 #[.pointer (some ⟨T, 0, none⟩), .agg #[.int .i64 o0, .int .i64 o1, .int .i64 o2, .int .i64 o3, .int .i64 o4, .int .i64 o5, .int .i64 o6, .int .i64 o7]] w fun e w' => e = .returned (.bool true) ∧ Did Gd m n T A B t (pickOf o0 13) w w' := by
  have P1 := fun x => pick_nat o1 4 x b1.1 b1.2 (by omega) (by omega)
  have P2 := fun x => pick_nat o2 4 x b2.1 b2.2 (by omega) (by omega)
  have P3 := fun x => pick_nat o3 9 x b3.1 b3.2 (by omega) (by omega)
  have P0 := fun x => pick_any o0 13 x b0.1 b0.2 (by omega) (by omega)
  have P4 := fun x => pick_any o4 2 x b4.1 b4.2 (by omega) (by omega)
  have ko := BlkIs.new w #[.int .i64 o0, .int .i64 o1, .int .i64 o2, .int .i64 o3, .int .i64 o4, .int .i64 o5, .int .i64 o6, .int .i64 o7] 29
  have hb := (Below.refl w.heap.size w).alloc (Nat.le_refl _) (.cells #[.int .i64 o0, .int .i64 o1, .int .i64 o2, .int .i64 o3, .int .i64 o4, .int .i64 o5, .int .i64 o6, .int .i64 o7] 29)
  have hx := h.on hb
  have hTq : T < w.heap.size := h.lt.1
  rw [hK] at P0 ⊢
  clear hK h
  go_enter Tryz.func14, Tryz.ntmps14
  obtain ⟨c0, c1, c2, c3, c4, c5, c6, c7, -⟩ := ko.facts8
  obtain ⟨Qb, hQb⟩ : ∃ Qb, w.heap.size = Qb := ⟨_, rfl⟩
  go_wp2_with fail
  rw [hQb] at ko hb c0 c1 c2 c3 c4 c5 c6 c7
  obtain ⟨x, hxx⟩ : ∃ x, w.alloc (.cells #[.int .i64 o0, .int .i64 o1, .int .i64 o2, .int .i64 o3, .int .i64 o4, .int .i64 o5, .int .i64 o6, .int .i64 o7] 29) = x := ⟨_, rfl⟩
  rw [hxx] at ko hb hx c0 c1 c2 c3 c4 c5 c6 c7 ⊢
  clear hxx
  refine (P1 _).mono ?_
  rintro e _ ⟨i, hi, rfl, rfl⟩
  go_wp2_with fail
  refine (P2 _).mono ?_
  rintro e _ ⟨k, hk4, rfl, rfl⟩
  go_wp2_with fail
  refine (P3 _).mono ?_
  rintro e _ ⟨j, hj, rfl, rfl⟩
  go_wp2_with fail
  refine (P0 _).mono ?_
  rintro e _ ⟨rfl, rfl⟩
  clear P0 P1 P2 P3
  have hnx : n ≤ x.heap.size := Nat.le_trans hn hb.size
  have hBx : Below n w x := hb.mono (by omega)
  obtain ⟨cA, cB, cR, cS, -⟩ := hx.cells
  have k0 : (0 : Int) ≤ (k : Int) := by omega
  have k1 : (k : Int) < 4 := by omega
  have cSk := cS k hk4
  have cRk := cR k hk4
  clear cR cS
  have HSh : ∃ (p d : Nat) (wk fn fr : Bool) (e : Int), (∀ y, Below x.heap.size x y → Calls Tryz.prog 30 #[.pointer (some ⟨B, 0, none⟩), .int .i64 (t.S.getD k 0 : Nat)] y fun r y' => r = .returned (.tuple #[shV p d wk fn, .bool fr, .int .i64 e]) ∧ Below y.heap.size y y') ∧
      (e = 70 ∨ (e = 0 ∧ t.S.getD k 0 ∈ t.r.pn ∧ hw (hdW t.r.l (t.S.getD k 0)) = wk)) := by
    by_cases hin : t.S.getD k 0 ∈ t.r.pn
    · refine ⟨hp (hdW t.r.l (t.S.getD k 0)), hd (hdW t.r.l (t.S.getD k 0)), hw (hdW t.r.l (t.S.getD k 0)), hf (hdW t.r.l (t.S.getD k 0)), hr (hdW t.r.l (t.S.getD k 0)), 0, fun y hy => ?_, .inr ⟨rfl, hin, rfl⟩⟩
      obtain ⟨K, hK, -⟩ := (hx.on hy).goB (Nat.le_trans hnx hy.size)
      exact shapeA_yes hK (N.or g) _ hin
    · refine ⟨0, 0, false, false, false, 70, fun y hy => ?_, .inl rfl⟩
      obtain ⟨K, hK, -⟩ := (hx.on hy).goB (Nat.le_trans hnx hy.size)
      exact shapeH_no hK (N.or g).sound _ fun e => hin (mem_nums.1 e)
  obtain ⟨p, d, wk, fn, fr, ec, MS, hec⟩ := HSh
  have HEC := Lib.hid hec
  clear hec
  have HSk : Hid (∀ y, Below x.heap.size x y → y.cell? ⟨T, 1, none⟩ = some (.pointer (some ⟨B, 0, none⟩)) ∧ y.cell? ⟨T, 6 + k, none⟩ = some (.int .i64 (t.S.getD k 0 : Nat)) ∧ Below x.heap.size x y) := Lib.hid fun y hb => ⟨(hb.cell (p := ⟨T, 1, none⟩) hx.lt.1).trans cB, (hb.cell (p := ⟨T, 6 + k, none⟩) hx.lt.1).trans cSk, hb⟩
  go_upto_region 21 with fail
  go_cut [13, 14, 15] from 21 to 313 (fun s13 s14 s15 wx => ∃ g : Nat, s13 = .pointer (some ⟨g, 0, none⟩) ∧ BlkIs wx g #[.int .i64 p, .int .i64 d, .bool wk, .bool fn] 45 ∧ s14 = .bool fr ∧ s15 = .int .i64 ec ∧ Below x.heap.size x wx)
  case first =>
    refine wp_region_noPanic ?_
    refine wp_region_held_drew (S := fun y => y.cell? ⟨T, 1, none⟩ = some (.pointer (some ⟨B, 0, none⟩)) ∧ y.cell? ⟨T, 6 + k, none⟩ = some (.int .i64 (t.S.getD k 0 : Nat)) ∧ Below x.heap.size x y) (by kernel_rfl) ⟨cB, cSk, (Below.refl _ _).drew⟩ (fun hS => ?_)
    have hc_ : Cnt 0 := trivial
    iterate 10 ((first | (refine takeC hc_ (v := ?_) rfl (by kernel_rfl) (by kernel_rfl) (by kernel_rfl) (fun _ _ _ h => h) (Or.inl ⟨by rfl, ?_⟩) hS ?_; rotate_left; (· (intro y hy; (try dsimp only at hy); go_simp; try with_reducible rfl))) | refine takeC hc_ (v := undef) rfl (by kernel_rfl) (by kernel_rfl) (by kernel_rfl) (fun _ _ _ h => h) (Or.inr ⟨by rfl, rfl⟩) hS ?_); try simp only [Act.put, List.setIfInBounds_toArray, List.set_cons_zero, List.set_cons_succ, List.getElem_toArray, List.append, List.getElem_cons_zero, List.getElem_cons_succ]; replace hc_ := hc_.next; simp only [Nat.reduceAdd] at hc_)
    clear hc_
    refine wpAnyH_ready (rs := [10, 15]) (by kernel_rfl) (by simp) ?_
    refine AllReadyH.cons (o := _) rfl (fun K hK => ?_) (AllReadyH.cons (o := _) rfl (fun K hK => ?_) AllReadyH.nil)
    · go_simp
      refine (MS _ hS.2.2).mono ?_
      rintro e y ⟨rfl, hb2⟩
      have hb3 := hS.2.2.trans (hb2.mono hS.2.2.size)
      refine hK.out _ _ (HSk.out _ hb3) (fun hS => ?_)
      clear hK K
      try simp only [Act.put, List.setIfInBounds_toArray, List.set_cons_zero, List.set_cons_succ]
      have hc_ : Cnt 11 := trivial
      iterate 4 ((first | (refine takeC hc_ (v := ?_) rfl (by kernel_rfl) (by kernel_rfl) (by kernel_rfl) (fun _ _ _ h => h) (Or.inl ⟨by rfl, ?_⟩) hS ?_; rotate_left; (· (intro y hy; (try dsimp only at hy); go_simp; try with_reducible rfl))) | refine takeC hc_ (v := undef) rfl (by kernel_rfl) (by kernel_rfl) (by kernel_rfl) (fun _ _ _ h => h) (Or.inr ⟨by rfl, rfl⟩) hS ?_); try simp only [Act.put, List.setIfInBounds_toArray, List.set_cons_zero, List.set_cons_succ, List.getElem_toArray, List.append, List.getElem_cons_zero, List.getElem_cons_succ]; replace hc_ := hc_.next; simp only [Nat.reduceAdd] at hc_)
      clear hc_
      refine wpAnyH_ready (rs := [15]) (by kernel_rfl) (by simp) ?_
      refine AllReadyH.cons (o := _) rfl (fun K hK => ?_) AllReadyH.nil
      go_simp
      refine hK.out _ _ (HSk.out _ (hb3.alloc hb3.size (.cells #[.int .i64 0, .int .i64 0, .bool false, .bool false] 45))) (fun hS => ?_)
      clear hK K
      try simp only [Act.put, List.setIfInBounds_toArray, List.set_cons_zero, List.set_cons_succ]
      refine wpAnyH_ready (rs := [16]) (by kernel_rfl) (by simp) ?_
      refine AllReadyH.cons (o := _) rfl (fun K hK => ?_) AllReadyH.nil
      go_simp
      refine hK.out _ _ (HSk.out _ (hb3.alloc hb3.size (.cells #[.int .i64 p, .int .i64 d, .bool wk, .bool fn] 45))) (fun hS => ?_)
      clear hK K
      try simp only [Act.put, List.setIfInBounds_toArray, List.set_cons_zero, List.set_cons_succ]
      have hc_ : Cnt 17 := trivial
      iterate 2 ((first | (refine takeC hc_ (v := ?_) rfl (by kernel_rfl) (by kernel_rfl) (by kernel_rfl) (fun _ _ _ h => h) (Or.inl ⟨by rfl, ?_⟩) hS ?_; rotate_left; (· (intro y hy; (try dsimp only at hy); go_simp; try with_reducible rfl))) | refine takeC hc_ (v := undef) rfl (by kernel_rfl) (by kernel_rfl) (by kernel_rfl) (fun _ _ _ h => h) (Or.inr ⟨by rfl, rfl⟩) hS ?_); try simp only [Act.put, List.setIfInBounds_toArray, List.set_cons_zero, List.set_cons_succ, List.getElem_toArray, List.append, List.getElem_cons_zero, List.getElem_cons_succ]; replace hc_ := hc_.next; simp only [Nat.reduceAdd] at hc_)
      clear hc_
      refine wpAnyH_done (by kernel_rfl) ?_ _
      refine NoPanic.normal ?_
      go_wp2_with fail
      go_meet
      exact ⟨_, rfl, BlkIs.new y _ _, rfl, rfl, hS.2.2⟩
    · go_simp
      have hk : BlkIs _ x.heap.size _ _ := BlkIs.new x.drew #[.int .i64 0, .int .i64 0, .bool false, .bool false] 45
      have hb3 := hS.2.2.alloc hS.2.2.size (.cells #[.int .i64 0, .int .i64 0, .bool false, .bool false] 45)
      refine hK.out _ _ (HSk.out _ hb3) (fun hS => ?_)
      clear hK K
      try simp only [Act.put, List.setIfInBounds_toArray, List.set_cons_zero, List.set_cons_succ]
      refine wpAnyH_ready (rs := [10]) (by kernel_rfl) (by simp) ?_
      refine AllReadyH.cons (o := _) rfl (fun K hK => ?_) AllReadyH.nil
      go_simp
      refine (MS _ hS.2.2).mono ?_
      rintro e y ⟨rfl, hb2⟩
      replace hk := hk.more hb2 (by simp)
      replace hb3 := hb3.trans (hb2.mono hb3.size)
      refine hK.out _ _ (HSk.out _ hb3) (fun hS => ?_)
      clear hK K
      try simp only [Act.put, List.setIfInBounds_toArray, List.set_cons_zero, List.set_cons_succ]
      have hc_ : Cnt 11 := trivial
      iterate 4 ((first | (refine takeC hc_ (v := ?_) rfl (by kernel_rfl) (by kernel_rfl) (by kernel_rfl) (fun _ _ _ h => h) (Or.inl ⟨by rfl, ?_⟩) hS ?_; rotate_left; (· (intro y hy; (try dsimp only at hy); go_simp; try with_reducible rfl))) | refine takeC hc_ (v := undef) rfl (by kernel_rfl) (by kernel_rfl) (by kernel_rfl) (fun _ _ _ h => h) (Or.inr ⟨by rfl, rfl⟩) hS ?_); try simp only [Act.put, List.setIfInBounds_toArray, List.set_cons_zero, List.set_cons_succ, List.getElem_toArray, List.append, List.getElem_cons_zero, List.getElem_cons_succ]; replace hc_ := hc_.next; simp only [Nat.reduceAdd] at hc_)
      clear hc_
      obtain ⟨⟨e0, e1, e2, e3⟩, f0, f1, f2, f3, l1⟩ := BlkIs.facts4 hk
      refine wpAnyH_ready (rs := [16]) (by kernel_rfl) (by simp) ?_
      refine AllReadyH.cons (o := _) rfl (fun K hK => ?_) AllReadyH.nil
      go_simp
      refine hK.out _ _ (HSk.out _ ((((hb3.setCell (p := ⟨x.heap.size, 0, none⟩) (Nat.le_refl _) (.int .i64 p)).setCell (p := ⟨x.heap.size, 1, none⟩) (Nat.le_refl _) (.int .i64 d)).setCell (p := ⟨x.heap.size, 2, none⟩) (Nat.le_refl _) (.bool wk)).setCell (p := ⟨x.heap.size, 3, none⟩) (Nat.le_refl _) (.bool fn))) (fun hS => ?_)
      clear hK K
      try simp only [Act.put, List.setIfInBounds_toArray, List.set_cons_zero, List.set_cons_succ]
      have hc_ : Cnt 17 := trivial
      iterate 2 ((first | (refine takeC hc_ (v := ?_) rfl (by kernel_rfl) (by kernel_rfl) (by kernel_rfl) (fun _ _ _ h => h) (Or.inl ⟨by rfl, ?_⟩) hS ?_; rotate_left; (· (intro y hy; (try dsimp only at hy); go_simp; try with_reducible rfl))) | refine takeC hc_ (v := undef) rfl (by kernel_rfl) (by kernel_rfl) (by kernel_rfl) (fun _ _ _ h => h) (Or.inr ⟨by rfl, rfl⟩) hS ?_); try simp only [Act.put, List.setIfInBounds_toArray, List.set_cons_zero, List.set_cons_succ, List.getElem_toArray, List.append, List.getElem_cons_zero, List.getElem_cons_succ]; replace hc_ := hc_.next; simp only [Nat.reduceAdd] at hc_)
      clear hc_
      refine wpAnyH_done (by kernel_rfl) ?_ _
      refine NoPanic.normal ?_
      go_wp2_with fail
      go_meet
      exact ⟨_, rfl, (((hk.set 0 (.int .i64 p)).set 1 (.int .i64 d)).set 2 (.bool wk)).set 3 (.bool fn), rfl, rfl, hS.2.2⟩
  case rest =>
    obtain ⟨q13, rfl, k13, rfl, rfl, hb⟩ := hcut
    replace hx := hx.on hb
    have hnw := Nat.le_trans hnx hb.size
    replace hBx := hBx.trans (hb.mono hnx)
    have HD : ∀ kd y, TwinFrom n y T A B t → Below n w y → Did Gd m n T A B t kd w y := fun kd y h1 h2 => ⟨t, h1, N.more g (by omega), h2, fun _ => ⟨rfl, fun _ h => h⟩⟩
    have HD := Lib.hid fun kd => HD kd _ hx hBx
    obtain ⟨⟨e0, e1, e2, e3⟩, -⟩ := k13.facts4
    clear MS cA cB cSk cRk HSk hb c0 c1 c2 c3 c4 c5 c6 c7 ko k13 hTq
    rcases HEC.out with rfl | ⟨rfl, hin, hwk⟩
    · go_wp2
      go_ret
      exact ⟨rfl, HD.out _⟩
    · cases wk with
      | true =>
        go_wp2
        go_ret
        exact ⟨rfl, HD.out _⟩
      | false =>
        have HG : Hid (Gd m (t.ptr i k j)) := Lib.hid (N.ptr g hi hk4 j ⟨hin, hwk⟩)
        clear HD hnx hwk hin HEC b0 b1 b2 b3 b4 b5 b6 b7 P4 hn
        have hd := (Below.refl wc.heap.size wc).drew
        obtain ⟨KA, hKA, -, -, hWA⟩ := (hx.on hd).goA hnw
        have MA := ptrA hKA (N.os g) (t.R.getD k 0) j (by omega)
        have MBf := fun KB (y : World) (hKB : HeapAt y KB B t.r) => ptrA hKB (N.or g) (t.S.getD k 0) j (by omega)
        rw [N.ptrE g hk4 j] at MBf
        have HPN : Hid ((t.ptr i k j).s.mv = t.s.mv ∧ ∀ x ∈ t.s.pn, x ∈ (t.ptr i k j).s.pn) := Lib.hid (by
          show (t.s.ptrS _ _).mv = t.s.mv ∧ ∀ x ∈ t.s.pn, x ∈ (t.s.ptrS _ _).pn
          unfold Hp.ptrS
          split
          · exact ⟨(moved_same t.s _).2.1, fun x hx => moved_pn t.s _ hx⟩
          · exact ⟨rfl, fun _ h => h⟩)
        obtain ⟨s', hs'⟩ : ∃ s', t.s.ptrS (t.R.getD k 0) j = s' := ⟨_, rfl⟩
        obtain ⟨r', hr'⟩ : ∃ r', t.r.ptrS (t.S.getD k 0) j = r' := ⟨_, rfl⟩
        obtain ⟨v, hv⟩ : ∃ v, t.s.ptrV (t.R.getD k 0) j = v := ⟨_, rfl⟩
        obtain ⟨u, hu⟩ : ∃ u, t.r.ptrV (t.S.getD k 0) j = u := ⟨_, rfl⟩
        obtain ⟨E, hE⟩ : ∃ E, t.s.ptrE (t.R.getD k 0) j = E := ⟨_, rfl⟩
        have HAL : Hid (t.ptr i k j = ⟨s', r', if E = 0 then t.R.set i v else t.R, if E = 0 then t.S.set i u else t.S⟩) := Lib.hid (by unfold St.ptr; rw [hs', hr', hv, hu, hE])
        rw [hs', hv, hE] at MA
        rw [hr', hu, hE] at MBf
        obtain ⟨cA, cB, cR, cS, -⟩ := hx.cells
        have cRk := cR k hk4
        obtain ⟨ra, hra⟩ : ∃ ra, t.R.getD k 0 = ra := ⟨_, rfl⟩
        obtain ⟨rb, hrb⟩ : ∃ rb, t.S.getD k 0 = rb := ⟨_, rfl⟩
        rw [hra] at MA cRk
        rw [hrb] at MBf
        have HRA := Lib.hid hra
        have HRB := Lib.hid hrb
        have MBf := Lib.hid MBf
        clear cR cS hs' hr' hv hu hE hra hrb
        go_wp2_with fail
        refine wp_region_held_drew (S := fun y => y.cell? ⟨T, 0, none⟩ = some (.pointer (some ⟨A, 0, none⟩)) ∧ y.cell? ⟨T, 2 + k, none⟩ = some (.int .i64 ra)) (by kernel_rfl) ⟨cA, cRk⟩ (fun hS => ?_)
        have hc_ : Cnt 0 := trivial
        iterate 11 ((first | (refine takeC hc_ (v := ?_) rfl (by kernel_rfl) (by kernel_rfl) (by kernel_rfl) (fun _ _ _ h => h) (Or.inl ⟨by rfl, ?_⟩) hS ?_; rotate_left; (· (intro y hy; (try dsimp only at hy); go_simp; try with_reducible rfl))) | refine takeC hc_ (v := undef) rfl (by kernel_rfl) (by kernel_rfl) (by kernel_rfl) (fun _ _ _ h => h) (Or.inr ⟨by rfl, rfl⟩) hS ?_); try simp only [Act.put, List.setIfInBounds_toArray, List.set_cons_zero, List.set_cons_succ, List.getElem_toArray, List.append, List.getElem_cons_zero, List.getElem_cons_succ]; replace hc_ := hc_.next; simp only [Nat.reduceAdd] at hc_)
        clear hc_
        refine wpAnyH_ready (rs := [11]) (by kernel_rfl) (by simp) ?_
        refine AllReadyH.cons (o := _) rfl (fun K hK => ?_) AllReadyH.nil
        go_simp
        refine MA.mono ?_
        rintro e z2 ⟨rfl, hW⟩
        obtain ⟨hx2, hB2⟩ := hWA _ _ hW
        obtain ⟨cA2, cB2, cR2, cS2, -⟩ := hx2.cells
        have cRk2 : z2.cell? ⟨T, 2 + k, none⟩ = some (.int .i64 ra) := by rw [← HRA.out]; exact cR2 k hk4
        have cSk2 : z2.cell? ⟨T, 6 + k, none⟩ = some (.int .i64 rb) := by rw [← HRB.out]; exact cS2 k hk4
        clear cR2 cS2
        refine hK.out _ _ (⟨cA2, cRk2⟩) (fun hS => ?_)
        clear hK K
        try simp only [Act.put, List.setIfInBounds_toArray, List.set_cons_zero, List.set_cons_succ]
        have hc_ : Cnt 12 := trivial
        iterate 5 ((first | (refine takeC hc_ (v := ?_) rfl (by kernel_rfl) (by kernel_rfl) (by kernel_rfl) (fun _ _ _ h => h) (Or.inl ⟨by rfl, ?_⟩) hS ?_; rotate_left; (· (intro y hy; (try dsimp only at hy); go_simp; try with_reducible rfl))) | refine takeC hc_ (v := undef) rfl (by kernel_rfl) (by kernel_rfl) (by kernel_rfl) (fun _ _ _ h => h) (Or.inr ⟨by rfl, rfl⟩) hS ?_); try simp only [Act.put, List.setIfInBounds_toArray, List.set_cons_zero, List.set_cons_succ, List.getElem_toArray, List.append, List.getElem_cons_zero, List.getElem_cons_succ]; replace hc_ := hc_.next; simp only [Nat.reduceAdd] at hc_)
        clear hc_
        refine wpAnyH_done (by kernel_rfl) ?_ _
        clear hS MA hW hWA hKA cA cB cRk hd
        have hnz2 : n ≤ z2.heap.size := by have := hB2.size; have : wc.drew.heap.size = wc.heap.size := rfl; omega
        replace hB2 := hBx.trans ((Below.refl n wc).drew.trans hB2)
        clear hBx hx hnw
        have hd := (Below.refl z2.heap.size z2).drew
        obtain ⟨KB, hKB, -, -, hWB⟩ := (hx2.on hd).goB hnz2
        have MB := MBf.out KB _ hKB
        go_wp2_with fail
        refine wp_region_held_drew (S := fun y => y.cell? ⟨T, 1, none⟩ = some (.pointer (some ⟨B, 0, none⟩)) ∧ y.cell? ⟨T, 6 + k, none⟩ = some (.int .i64 rb)) (by kernel_rfl) ⟨cB2, cSk2⟩ (fun hS => ?_)
        have hc_ : Cnt 0 := trivial
        iterate 11 ((first | (refine takeC hc_ (v := ?_) rfl (by kernel_rfl) (by kernel_rfl) (by kernel_rfl) (fun _ _ _ h => h) (Or.inl ⟨by rfl, ?_⟩) hS ?_; rotate_left; (· (intro y hy; (try dsimp only at hy); go_simp; try with_reducible rfl))) | refine takeC hc_ (v := undef) rfl (by kernel_rfl) (by kernel_rfl) (by kernel_rfl) (fun _ _ _ h => h) (Or.inr ⟨by rfl, rfl⟩) hS ?_); try simp only [Act.put, List.setIfInBounds_toArray, List.set_cons_zero, List.set_cons_succ, List.getElem_toArray, List.append, List.getElem_cons_zero, List.getElem_cons_succ]; replace hc_ := hc_.next; simp only [Nat.reduceAdd] at hc_)
        clear hc_
        refine wpAnyH_ready (rs := [11]) (by kernel_rfl) (by simp) ?_
        refine AllReadyH.cons (o := _) rfl (fun K hK => ?_) AllReadyH.nil
        go_simp
        refine MB.mono ?_
        rintro e z3 ⟨rfl, hW⟩
        obtain ⟨hx3, hB3⟩ := hWB _ _ hW
        obtain ⟨cA3, cB3, cR3, cS3, hfz⟩ := hx3.cells
        have cSk3 : z3.cell? ⟨T, 6 + k, none⟩ = some (.int .i64 rb) := by rw [← HRB.out]; exact cS3 k hk4
        refine hK.out _ _ (⟨cB3, cSk3⟩) (fun hS => ?_)
        clear hK K
        try simp only [Act.put, List.setIfInBounds_toArray, List.set_cons_zero, List.set_cons_succ]
        have hc_ : Cnt 12 := trivial
        iterate 5 ((first | (refine takeC hc_ (v := ?_) rfl (by kernel_rfl) (by kernel_rfl) (by kernel_rfl) (fun _ _ _ h => h) (Or.inl ⟨by rfl, ?_⟩) hS ?_; rotate_left; (· (intro y hy; (try dsimp only at hy); go_simp; try with_reducible rfl))) | refine takeC hc_ (v := undef) rfl (by kernel_rfl) (by kernel_rfl) (by kernel_rfl) (fun _ _ _ h => h) (Or.inr ⟨by rfl, rfl⟩) hS ?_); try simp only [Act.put, List.setIfInBounds_toArray, List.set_cons_zero, List.set_cons_succ, List.getElem_toArray, List.append, List.getElem_cons_zero, List.getElem_cons_succ]; replace hc_ := hc_.next; simp only [Nat.reduceAdd] at hc_)
        clear hc_
        refine wpAnyH_done (by kernel_rfl) ?_ _
        clear hS MB hW hWB hKB hd cA2 cB2 cRk2 cSk2
        have hnz3 : n ≤ z3.heap.size := by have := hB3.size; have : z2.drew.heap.size = z2.heap.size := rfl; omega
        replace hB3 := hB2.trans ((Below.refl n z2).drew.trans hB3)
        clear hB2 hx2 hnz2
        have dEE : ((E : Int) == (E : Int)) = true := by simp
        by_cases hE0 : E = 0
        · have dE : ((E : Int) == 0) = true := by simp [hE0]
          obtain ⟨hx4, hc4⟩ := hx3.setR hi v
          obtain ⟨hx5, hc5⟩ := hx4.setS hi u
          have i0 : (0 : Int) ≤ (i : Int) := by omega
          have i1 : (i : Int) < 4 := by omega
          have cRi := cR3 i hi
          have cSi := cS3 i hi
          have fR := hfz (2 + i)
          have fS := hfz (6 + i)
          have hTn := hx3.lt.2
          have hB5 := (hB3.trans (hc4.below (n := n) (fun c e => by omega) hnz3)).trans (hc5.below (n := n) (fun c e => by omega) (by show n ≤ (z3.setCell _ _).heap.size; simpa using hnz3))
          rw [if_pos hE0, if_pos hE0] at HAL
          have HX5 : Hid (TwinFrom n _ T A B (t.ptr i k j)) := Lib.hid (by rw [HAL.out]; exact hx5)
          have HB5 := Lib.hid hB5
          have HE := Lib.hid hE0
          clear cR3 cS3 hfz hx3 hB3 hx4 hx5 hc4 hc5 hB5 HAL hE0
          go_wp2_with fail
          go_ret
          have hg' := HG.out
          exact ⟨rfl, t.ptr i k j, HX5.out, N.more hg' (by omega), HB5.out, fun _ => HPN.out⟩
        · have dE : ((E : Int) == 0) = false := by simp [hE0]
          rw [if_neg hE0, if_neg hE0] at HAL
          have HX5 : Hid (TwinFrom n _ T A B (t.ptr i k j)) := Lib.hid (by rw [HAL.out]; exact hx3)
          have HB5 := Lib.hid hB3
          clear cR3 cS3 hfz hx3 hB3 HAL hE0
          go_wp2_with fail
          go_ret
          have hg' := HG.out
          exact ⟨rfl, t.ptr i k j, HX5.out, N.more hg' (by omega), HB5.out, fun _ => HPN.out⟩

end Go.Proofs.YtbjmeibcphmgbaaGreat

namespace Go.Proofs.YtbjmeibcphmgbaaGreat
open Go.ChangeShapes Go.WideShapes Go.ChangeAt Go.RowKit

set_option linter.unusedSimpArgs false
set_option linter.unusedVariables false


set_option maxRecDepth 100000 in
set_option maxHeartbeats 4000000 in
theorem does_5 (o0 : Int) (hK : pickOf o0 13 = 5)
    {Gd : Nat → St → Prop} {m n : Nat} {T A B : Nat} {t : St} {w : World} (N : Nice Gd) (hn : n ≤ w.heap.size) (h : TwinFrom n w T A B t) (g : Gd m t) (hm : m ≤ 500) (o1 o2 o3 o4 o5 o6 o7 : Int)
    (b0 : -9223372036854775808 ≤ o0 ∧ o0 ≤ 9223372036854775807) (b1 : -9223372036854775808 ≤ o1 ∧ o1 ≤ 9223372036854775807) (b2 : -9223372036854775808 ≤ o2 ∧ o2 ≤ 9223372036854775807) (b3 : -9223372036854775808 ≤ o3 ∧ o3 ≤ 9223372036854775807)
    (b4 : -9223372036854775808 ≤ o4 ∧ o4 ≤ 9223372036854775807) (b5 : -9223372036854775808 ≤ o5 ∧ o5 ≤ 9223372036854775807) (b6 : -9223372036854775808 ≤ o6 ∧ o6 ≤ 9223372036854775807) (b7 : -9223372036854775808 ≤ o7 ∧ o7 ≤ 9223372036854775807) :
    Calls Tryz.prog 14 #[.pointer (some ⟨T, 0, none⟩), .agg #[.int .i64 o0, .int .i64 o1, .int .i64 o2, .int .i64 o3, .int .i64 o4, .int .i64 o5, .int .i64 o6, .int .i64 o7]] w fun e w' => e = .returned (.bool true) ∧ Did Gd m n T A B t (pickOf o0 13) w w' := by
  have P1 := fun x => pick_nat o1 4 x b1.1 b1.2 (by omega) (by omega)
  have P2 := fun x => pick_nat o2 4 x b2.1 b2.2 (by omega) (by omega)
  have P3 := fun x => pick_nat o3 9 x b3.1 b3.2 (by omega) (by omega)
  have P0 := fun x => pick_any o0 13 x b0.1 b0.2 (by omega) (by omega)
  have P4 := fun x => pick_any o4 2 x b4.1 b4.2 (by omega) (by omega)
  have ko := BlkIs.new w #[.int .i64 o0, .int .i64 o1, .int .i64 o2, .int .i64 o3, .int .i64 o4, .int .i64 o5, .int .i64 o6, .int .i64 o7] 29
  have hb := (Below.refl w.heap.size w).alloc (Nat.le_refl _) (.cells #[.int .i64 o0, .int .i64 o1, .int .i64 o2, .int .i64 o3, .int .i64 o4, .int .i64 o5, .int .i64 o6, .int .i64 o7] 29)
  have hx := h.on hb
  have hTq : T < w.heap.size := h.lt.1
  rw [hK] at P0 ⊢
  clear hK h
  go_enter Tryz.func14, Tryz.ntmps14
  obtain ⟨c0, c1, c2, c3, c4, c5, c6, c7, -⟩ := ko.facts8
  obtain ⟨Qb, hQb⟩ : ∃ Qb, w.heap.size = Qb := ⟨_, rfl⟩
  go_wp2_with fail
  rw [hQb] at ko hb c0 c1 c2 c3 c4 c5 c6 c7
  obtain ⟨x, hxx⟩ : ∃ x, w.alloc (.cells #[.int .i64 o0, .int .i64 o1, .int .i64 o2, .int .i64 o3, .int .i64 o4, .int .i64 o5, .int .i64 o6, .int .i64 o7] 29) = x := ⟨_, rfl⟩
  rw [hxx] at ko hb hx c0 c1 c2 c3 c4 c5 c6 c7 ⊢
  clear hxx
  refine (P1 _).mono ?_
  rintro e _ ⟨i, hi, rfl, rfl⟩
  go_wp2_with fail
  refine (P2 _).mono ?_
  rintro e _ ⟨k, hk4, rfl, rfl⟩
  go_wp2_with fail
  refine (P3 _).mono ?_
  rintro e _ ⟨j, hj, rfl, rfl⟩
  go_wp2_with fail
  refine (P0 _).mono ?_
  rintro e _ ⟨rfl, rfl⟩
  clear P0 P1 P2 P3
  have hnx : n ≤ x.heap.size := Nat.le_trans hn hb.size
  have hBx : Below n w x := hb.mono (by omega)
  have hxd := hx.on ((Below.refl x.heap.size x).drew)
  obtain ⟨KA, hKA, -, -, hWA⟩ := hxd.goA hnx
  have MA := setPtrA hKA (N.os g) (t.R.getD k 0) j (t.R.getD i 0) (by omega)
  have MBf := fun KB (y : World) (hKB : HeapAt y KB B t.r) => setPtrA hKB (N.or g) (t.S.getD k 0) j (t.S.getD i 0) (by omega)
  rw [N.setPtrE g hk4 hi j] at MBf
  have HG := Lib.hid (N.setPtr g hi hk4 j)
  obtain ⟨s', hs'⟩ : ∃ s', t.s.setPtrS (t.R.getD k 0) j (t.R.getD i 0) = s' := ⟨_, rfl⟩
  obtain ⟨r', hr'⟩ : ∃ r', t.r.setPtrS (t.S.getD k 0) j (t.S.getD i 0) = r' := ⟨_, rfl⟩
  obtain ⟨E, hE⟩ : ∃ E, t.s.setPtrE (t.R.getD k 0) j (t.R.getD i 0) = E := ⟨_, rfl⟩
  have HAL : Hid (t.setPtr i k j = ⟨s', r', t.R, t.S⟩) := Lib.hid (by unfold St.setPtr; rw [hs', hr'])
  have HPN : Hid ((t.setPtr i k j).s.mv = t.s.mv ∧ ∀ x ∈ t.s.pn, x ∈ (t.setPtr i k j).s.pn) := Lib.hid (by
    show (t.s.setPtrS _ _ _).mv = t.s.mv ∧ ∀ x ∈ t.s.pn, x ∈ (t.s.setPtrS _ _ _).pn
    unfold Hp.setPtrS
    split <;> exact ⟨rfl, fun _ h => h⟩)
  rw [hs', hE] at MA
  rw [hr', hE] at MBf
  obtain ⟨ra, hra⟩ : ∃ ra, t.R.getD k 0 = ra := ⟨_, rfl⟩
  obtain ⟨rb, hrb⟩ : ∃ rb, t.S.getD k 0 = rb := ⟨_, rfl⟩
  obtain ⟨pa, hpa⟩ : ∃ pa, t.R.getD i 0 = pa := ⟨_, rfl⟩
  obtain ⟨pb, hpb⟩ : ∃ pb, t.S.getD i 0 = pb := ⟨_, rfl⟩
  rw [hra, hpa] at MA
  rw [hrb, hpb] at MBf
  have HC : Hid (∀ y s r, TwinFrom n y T A B ⟨s, r, t.R, t.S⟩ → (y.cell? ⟨T, 0, none⟩ = some (.pointer (some ⟨A, 0, none⟩)) ∧ y.cell? ⟨T, 1, none⟩ = some (.pointer (some ⟨B, 0, none⟩))) ∧ y.cell? ⟨T, 2 + k, none⟩ = some (.int .i64 ra) ∧ y.cell? ⟨T, 2 + i, none⟩ = some (.int .i64 pa) ∧ y.cell? ⟨T, 6 + k, none⟩ = some (.int .i64 rb) ∧ y.cell? ⟨T, 6 + i, none⟩ = some (.int .i64 pb)) := Lib.hid fun y s r hy => by
    obtain ⟨q0, q1, q2, q3, -⟩ := hy.cells
    refine ⟨⟨q0, q1⟩, ?_, ?_, ?_, ?_⟩
    · rw [← hra]; exact q2 k hk4
    · rw [← hpa]; exact q2 i hi
    · rw [← hrb]; exact q3 k hk4
    · rw [← hpb]; exact q3 i hi
  have MBf := Lib.hid MBf
  clear hs' hr' hE hra hrb hpa hpb c0 c1 c2 c3 c4 c5 c6 c7 ko hb hTq
  have k0 : (0 : Int) ≤ (k : Int) := by omega
  have k1 : (k : Int) < 4 := by omega
  have i0 : (0 : Int) ≤ (i : Int) := by omega
  have i1 : (i : Int) < 4 := by omega
  have dEE : ((E : Int) == (E : Int)) = true := by simp
  go_wp2_with fail
  refine wp_region_held_drew (S := fun y => (y.cell? ⟨T, 0, none⟩ = some (.pointer (some ⟨A, 0, none⟩)) ∧ y.cell? ⟨T, 1, none⟩ = some (.pointer (some ⟨B, 0, none⟩))) ∧ y.cell? ⟨T, 2 + k, none⟩ = some (.int .i64 ra) ∧ y.cell? ⟨T, 2 + i, none⟩ = some (.int .i64 pa) ∧ y.cell? ⟨T, 6 + k, none⟩ = some (.int .i64 rb) ∧ y.cell? ⟨T, 6 + i, none⟩ = some (.int .i64 pb)) (by kernel_rfl) (HC.out _ t.s t.r hxd) (fun hS => ?_)
  have hc_ : Cnt 0 := trivial
  iterate 17 ((first | (refine takeC hc_ (v := ?_) rfl (by kernel_rfl) (by kernel_rfl) (by kernel_rfl) (fun _ _ _ h => h) (Or.inl ⟨by rfl, ?_⟩) hS ?_; rotate_left; (· (intro y hy; (try dsimp only at hy); go_simp; try with_reducible rfl))) | refine takeC hc_ (v := undef) rfl (by kernel_rfl) (by kernel_rfl) (by kernel_rfl) (fun _ _ _ h => h) (Or.inr ⟨by rfl, rfl⟩) hS ?_); try simp only [Act.put, List.setIfInBounds_toArray, List.set_cons_zero, List.set_cons_succ, List.getElem_toArray, List.append, List.getElem_cons_zero, List.getElem_cons_succ]; replace hc_ := hc_.next; simp only [Nat.reduceAdd] at hc_)
  clear hc_
  have hc_ : Cnt 18 := trivial
  iterate 17 ((first | (refine takeC hc_ (v := ?_) rfl (by kernel_rfl) (by kernel_rfl) (by kernel_rfl) (fun _ _ _ h => h) (Or.inl ⟨by rfl, ?_⟩) hS ?_; rotate_left; (· (intro y hy; (try dsimp only at hy); go_simp; try with_reducible rfl))) | refine takeC hc_ (v := undef) rfl (by kernel_rfl) (by kernel_rfl) (by kernel_rfl) (fun _ _ _ h => h) (Or.inr ⟨by rfl, rfl⟩) hS ?_); try simp only [Act.put, List.setIfInBounds_toArray, List.set_cons_zero, List.set_cons_succ, List.getElem_toArray, List.append, List.getElem_cons_zero, List.getElem_cons_succ]; replace hc_ := hc_.next; simp only [Nat.reduceAdd] at hc_)
  clear hc_
  refine wpAnyH_ready (rs := [17]) (by kernel_rfl) (by simp) ?_
  refine AllReadyH.cons (o := _) rfl (fun K hK => ?_) AllReadyH.nil
  go_simp
  refine MA.mono ?_
  rintro e z2 ⟨rfl, hW⟩
  obtain ⟨hx2, hB2⟩ := hWA _ _ hW
  have hnz2 : n ≤ z2.heap.size := by have := hB2.size; have : x.drew.heap.size = x.heap.size := rfl; omega
  replace hB2 := hBx.trans ((Below.refl n x).drew.trans hB2)
  refine hK.out _ _ (HC.out _ s' t.r hx2) (fun hS => ?_)
  clear hK K
  try simp only [Act.put, List.setIfInBounds_toArray, List.set_cons_zero, List.set_cons_succ]
  clear MA hW hWA hKA hxd
  obtain ⟨KB, hKB, -, -, hWB⟩ := hx2.goB hnz2
  have MB := MBf.out KB _ hKB
  refine wpAnyH_ready (rs := [35]) (by kernel_rfl) (by simp) ?_
  refine AllReadyH.cons (o := _) rfl (fun K hK => ?_) AllReadyH.nil
  go_simp
  refine MB.mono ?_
  rintro e z3 ⟨rfl, hW⟩
  obtain ⟨hx3, hB3⟩ := hWB _ _ hW
  replace hB3 := hB2.trans hB3
  refine hK.out _ _ (HC.out _ s' r' hx3) (fun hS => ?_)
  clear hK K
  try simp only [Act.put, List.setIfInBounds_toArray, List.set_cons_zero, List.set_cons_succ]
  have hc_ : Cnt 36 := trivial
  iterate 2 ((first | (refine takeC hc_ (v := ?_) rfl (by kernel_rfl) (by kernel_rfl) (by kernel_rfl) (fun _ _ _ h => h) (Or.inl ⟨by rfl, ?_⟩) hS ?_; rotate_left; (· (intro y hy; (try dsimp only at hy); go_simp; try with_reducible rfl))) | refine takeC hc_ (v := undef) rfl (by kernel_rfl) (by kernel_rfl) (by kernel_rfl) (fun _ _ _ h => h) (Or.inr ⟨by rfl, rfl⟩) hS ?_); try simp only [Act.put, List.setIfInBounds_toArray, List.set_cons_zero, List.set_cons_succ, List.getElem_toArray, List.append, List.getElem_cons_zero, List.getElem_cons_succ]; replace hc_ := hc_.next; simp only [Nat.reduceAdd] at hc_)
  clear hc_
  refine wpAnyH_done (by kernel_rfl) ?_ _
  clear hS
  go_wp2_with fail
  go_ret
  exact ⟨rfl, t.setPtr i k j, by rw [HAL.out]; exact hx3, N.more HG.out (by omega), hB3, fun _ => HPN.out⟩

set_option maxRecDepth 100000 in
set_option maxHeartbeats 4000000 in
theorem does_6 (o0 : Int) (hK : pickOf o0 13 = 6)
    {Gd : Nat → St → Prop} {m n : Nat} {T A B : Nat} {t : St} {w : World} (N : Nice Gd) (hn : n ≤ w.heap.size) (h : TwinFrom n w T A B t) (g : Gd m t) (hm : m ≤ 500) (o1 o2 o3 o4 o5 o6 o7 : Int)
    (b0 : -9223372036854775808 ≤ o0 ∧ o0 ≤ 9223372036854775807) (b1 : -9223372036854775808 ≤ o1 ∧ o1 ≤ 9223372036854775807) (b2 : -9223372036854775808 ≤ o2 ∧ o2 ≤ 9223372036854775807) (b3 : -9223372036854775808 ≤ o3 ∧ o3 ≤ 9223372036854775807)
    (b4 : -9223372036854775808 ≤ o4 ∧ o4 ≤ 9223372036854775807) (b5 : -9223372036854775808 ≤ o5 ∧ o5 ≤ 9223372036854775807) (b6 : -9223372036854775808 ≤ o6 ∧ o6 ≤ 9223372036854775807) (b7 : -9223372036854775808 ≤ o7 ∧ o7 ≤ 9223372036854775807) :
    Calls Tryz.prog 14 #[.pointer (some ⟨T, 0, none⟩), .agg #[.int .i64 o0, .int .i64 o1, .int .i64 o2, .int .i64 o3, .int .i64 o4, .int .i64 o5, .int .i64 o6, .int .i64 o7]] w fun e w' => e = .returned (.bool true) ∧ Did Gd m n T A B t (pickOf o0 13) w w' := by
  have P1 := fun x => pick_nat o1 4 x b1.1 b1.2 (by omega) (by omega)
  have P2 := fun x => pick_nat o2 4 x b2.1 b2.2 (by omega) (by omega)
  have P3 := fun x => pick_nat o3 9 x b3.1 b3.2 (by omega) (by omega)
  have P0 := fun x => pick_any o0 13 x b0.1 b0.2 (by omega) (by omega)
  have P4 := fun x => pick_any o4 2 x b4.1 b4.2 (by omega) (by omega)
  have ko := BlkIs.new w #[.int .i64 o0, .int .i64 o1, .int .i64 o2, .int .i64 o3, .int .i64 o4, .int .i64 o5, .int .i64 o6, .int .i64 o7] 29
  have hb := (Below.refl w.heap.size w).alloc (Nat.le_refl _) (.cells #[.int .i64 o0, .int .i64 o1, .int .i64 o2, .int .i64 o3, .int .i64 o4, .int .i64 o5, .int .i64 o6, .int .i64 o7] 29)
  have hx := h.on hb
  have hTq : T < w.heap.size := h.lt.1
  rw [hK] at P0 ⊢
  clear hK h
  go_enter Tryz.func14, Tryz.ntmps14
  obtain ⟨c0, c1, c2, c3, c4, c5, c6, c7, -⟩ := ko.facts8
  obtain ⟨Qb, hQb⟩ : ∃ Qb, w.heap.size = Qb := ⟨_, rfl⟩
  go_wp2_with fail
  rw [hQb] at ko hb c0 c1 c2 c3 c4 c5 c6 c7
  obtain ⟨x, hxx⟩ : ∃ x, w.alloc (.cells #[.int .i64 o0, .int .i64 o1, .int .i64 o2, .int .i64 o3, .int .i64 o4, .int .i64 o5, .int .i64 o6, .int .i64 o7] 29) = x := ⟨_, rfl⟩
  rw [hxx] at ko hb hx c0 c1 c2 c3 c4 c5 c6 c7 ⊢
  clear hxx
  refine (P1 _).mono ?_
  rintro e _ ⟨i, hi, rfl, rfl⟩
  go_wp2_with fail
  refine (P2 _).mono ?_
  rintro e _ ⟨k, hk4, rfl, rfl⟩
  go_wp2_with fail
  refine (P3 _).mono ?_
  rintro e _ ⟨j, hj, rfl, rfl⟩
  go_wp2_with fail
  refine (P0 _).mono ?_
  rintro e _ ⟨rfl, rfl⟩
  clear P0 P1 P2 P3
  have hnx : n ≤ x.heap.size := Nat.le_trans hn hb.size
  have hBx : Below n w x := hb.mono (by omega)
  have hxd := hx.on ((Below.refl x.heap.size x).drew)
  obtain ⟨KA, hKA, -, -, hWA⟩ := hxd.goA hnx
  have MA := setPtrA hKA (N.os g) (t.R.getD k 0) j (t.R.getD i 0) (by omega)
  have MBf := fun KB (y : World) (hKB : HeapAt y KB B t.r) => setPtrA hKB (N.or g) (t.S.getD k 0) j (t.S.getD i 0) (by omega)
  rw [N.setPtrE g hk4 hi j] at MBf
  have HG := Lib.hid (N.setPtr g hi hk4 j)
  obtain ⟨s', hs'⟩ : ∃ s', t.s.setPtrS (t.R.getD k 0) j (t.R.getD i 0) = s' := ⟨_, rfl⟩
  obtain ⟨r', hr'⟩ : ∃ r', t.r.setPtrS (t.S.getD k 0) j (t.S.getD i 0) = r' := ⟨_, rfl⟩
  obtain ⟨E, hE⟩ : ∃ E, t.s.setPtrE (t.R.getD k 0) j (t.R.getD i 0) = E := ⟨_, rfl⟩
  have HAL : Hid (t.setPtr i k j = ⟨s', r', t.R, t.S⟩) := Lib.hid (by unfold St.setPtr; rw [hs', hr'])
  have HPN : Hid ((t.setPtr i k j).s.mv = t.s.mv ∧ ∀ x ∈ t.s.pn, x ∈ (t.setPtr i k j).s.pn) := Lib.hid (by
    show (t.s.setPtrS _ _ _).mv = t.s.mv ∧ ∀ x ∈ t.s.pn, x ∈ (t.s.setPtrS _ _ _).pn
    unfold Hp.setPtrS
    split <;> exact ⟨rfl, fun _ h => h⟩)
  rw [hs', hE] at MA
  rw [hr', hE] at MBf
  obtain ⟨ra, hra⟩ : ∃ ra, t.R.getD k 0 = ra := ⟨_, rfl⟩
  obtain ⟨rb, hrb⟩ : ∃ rb, t.S.getD k 0 = rb := ⟨_, rfl⟩
  obtain ⟨pa, hpa⟩ : ∃ pa, t.R.getD i 0 = pa := ⟨_, rfl⟩
  obtain ⟨pb, hpb⟩ : ∃ pb, t.S.getD i 0 = pb := ⟨_, rfl⟩
  rw [hra, hpa] at MA
  rw [hrb, hpb] at MBf
  have HC : Hid (∀ y s r, TwinFrom n y T A B ⟨s, r, t.R, t.S⟩ → (y.cell? ⟨T, 0, none⟩ = some (.pointer (some ⟨A, 0, none⟩)) ∧ y.cell? ⟨T, 1, none⟩ = some (.pointer (some ⟨B, 0, none⟩))) ∧ y.cell? ⟨T, 2 + k, none⟩ = some (.int .i64 ra) ∧ y.cell? ⟨T, 2 + i, none⟩ = some (.int .i64 pa) ∧ y.cell? ⟨T, 6 + k, none⟩ = some (.int .i64 rb) ∧ y.cell? ⟨T, 6 + i, none⟩ = some (.int .i64 pb)) := Lib.hid fun y s r hy => by
    obtain ⟨q0, q1, q2, q3, -⟩ := hy.cells
    refine ⟨⟨q0, q1⟩, ?_, ?_, ?_, ?_⟩
    · rw [← hra]; exact q2 k hk4
    · rw [← hpa]; exact q2 i hi
    · rw [← hrb]; exact q3 k hk4
    · rw [← hpb]; exact q3 i hi
  have MBf := Lib.hid MBf
  clear hs' hr' hE hra hrb hpa hpb c0 c1 c2 c3 c4 c5 c6 c7 ko hb hTq
  have k0 : (0 : Int) ≤ (k : Int) := by omega
  have k1 : (k : Int) < 4 := by omega
  have i0 : (0 : Int) ≤ (i : Int) := by omega
  have i1 : (i : Int) < 4 := by omega
  have dEE : ((E : Int) == (E : Int)) = true := by simp
  go_wp2_with fail
  refine wp_region_held_drew (S := fun y => (y.cell? ⟨T, 0, none⟩ = some (.pointer (some ⟨A, 0, none⟩)) ∧ y.cell? ⟨T, 1, none⟩ = some (.pointer (some ⟨B, 0, none⟩))) ∧ y.cell? ⟨T, 2 + k, none⟩ = some (.int .i64 ra) ∧ y.cell? ⟨T, 2 + i, none⟩ = some (.int .i64 pa) ∧ y.cell? ⟨T, 6 + k, none⟩ = some (.int .i64 rb) ∧ y.cell? ⟨T, 6 + i, none⟩ = some (.int .i64 pb)) (by kernel_rfl) (HC.out _ t.s t.r hxd) (fun hS => ?_)
  have hc_ : Cnt 0 := trivial
  iterate 17 ((first | (refine takeC hc_ (v := ?_) rfl (by kernel_rfl) (by kernel_rfl) (by kernel_rfl) (fun _ _ _ h => h) (Or.inl ⟨by rfl, ?_⟩) hS ?_; rotate_left; (· (intro y hy; (try dsimp only at hy); go_simp; try with_reducible rfl))) | refine takeC hc_ (v := undef) rfl (by kernel_rfl) (by kernel_rfl) (by kernel_rfl) (fun _ _ _ h => h) (Or.inr ⟨by rfl, rfl⟩) hS ?_); try simp only [Act.put, List.setIfInBounds_toArray, List.set_cons_zero, List.set_cons_succ, List.getElem_toArray, List.append, List.getElem_cons_zero, List.getElem_cons_succ]; replace hc_ := hc_.next; simp only [Nat.reduceAdd] at hc_)
  clear hc_
  have hc_ : Cnt 18 := trivial
  iterate 17 ((first | (refine takeC hc_ (v := ?_) rfl (by kernel_rfl) (by kernel_rfl) (by kernel_rfl) (fun _ _ _ h => h) (Or.inl ⟨by rfl, ?_⟩) hS ?_; rotate_left; (· (intro y hy; (try dsimp only at hy); go_simp; try with_reducible rfl))) | refine takeC hc_ (v := undef) rfl (by kernel_rfl) (by kernel_rfl) (by kernel_rfl) (fun _ _ _ h => h) (Or.inr ⟨by rfl, rfl⟩) hS ?_); try simp only [Act.put, List.setIfInBounds_toArray, List.set_cons_zero, List.set_cons_succ, List.getElem_toArray, List.append, List.getElem_cons_zero, List.getElem_cons_succ]; replace hc_ := hc_.next; simp only [Nat.reduceAdd] at hc_)
  clear hc_
  refine wpAnyH_ready (rs := [17]) (by kernel_rfl) (by simp) ?_
  refine AllReadyH.cons (o := _) rfl (fun K hK => ?_) AllReadyH.nil
  go_simp
  refine MA.mono ?_
  rintro e z2 ⟨rfl, hW⟩
  obtain ⟨hx2, hB2⟩ := hWA _ _ hW
  have hnz2 : n ≤ z2.heap.size := by have := hB2.size; have : x.drew.heap.size = x.heap.size := rfl; omega
  replace hB2 := hBx.trans ((Below.refl n x).drew.trans hB2)
  refine hK.out _ _ (HC.out _ s' t.r hx2) (fun hS => ?_)
  clear hK K
  try simp only [Act.put, List.setIfInBounds_toArray, List.set_cons_zero, List.set_cons_succ]
  clear MA hW hWA hKA hxd
  obtain ⟨KB, hKB, -, -, hWB⟩ := hx2.goB hnz2
  have MB := MBf.out KB _ hKB
  refine wpAnyH_ready (rs := [35]) (by kernel_rfl) (by simp) ?_
  refine AllReadyH.cons (o := _) rfl (fun K hK => ?_) AllReadyH.nil
  go_simp
  refine MB.mono ?_
  rintro e z3 ⟨rfl, hW⟩
  obtain ⟨hx3, hB3⟩ := hWB _ _ hW
  replace hB3 := hB2.trans hB3
  refine hK.out _ _ (HC.out _ s' r' hx3) (fun hS => ?_)
  clear hK K
  try simp only [Act.put, List.setIfInBounds_toArray, List.set_cons_zero, List.set_cons_succ]
  have hc_ : Cnt 36 := trivial
  iterate 2 ((first | (refine takeC hc_ (v := ?_) rfl (by kernel_rfl) (by kernel_rfl) (by kernel_rfl) (fun _ _ _ h => h) (Or.inl ⟨by rfl, ?_⟩) hS ?_; rotate_left; (· (intro y hy; (try dsimp only at hy); go_simp; try with_reducible rfl))) | refine takeC hc_ (v := undef) rfl (by kernel_rfl) (by kernel_rfl) (by kernel_rfl) (fun _ _ _ h => h) (Or.inr ⟨by rfl, rfl⟩) hS ?_); try simp only [Act.put, List.setIfInBounds_toArray, List.set_cons_zero, List.set_cons_succ, List.getElem_toArray, List.append, List.getElem_cons_zero, List.getElem_cons_succ]; replace hc_ := hc_.next; simp only [Nat.reduceAdd] at hc_)
  clear hc_
  refine wpAnyH_done (by kernel_rfl) ?_ _
  clear hS
  go_wp2_with fail
  go_ret
  exact ⟨rfl, t.setPtr i k j, by rw [HAL.out]; exact hx3, N.more HG.out (by omega), hB3, fun _ => HPN.out⟩

set_option maxRecDepth 100000 in
set_option maxHeartbeats 4000000 in
theorem does_7 (o0 : Int) (hK : pickOf o0 13 = 7)
    {Gd : Nat → St → Prop} {m n : Nat} {T A B : Nat} {t : St} {w : World} (N : Nice Gd) (hn : n ≤ w.heap.size) (h : TwinFrom n w T A B t) (g : Gd m t) (hm : m ≤ 500) (o1 o2 o3 o4 o5 o6 o7 : Int)
    (b0 : -9223372036854775808 ≤ o0 ∧ o0 ≤ 9223372036854775807) (b1 : -9223372036854775808 ≤ o1 ∧ o1 ≤ 9223372036854775807) (b2 : -9223372036854775808 ≤ o2 ∧ o2 ≤ 9223372036854775807) (b3 : -9223372036854775808 ≤ o3 ∧ o3 ≤ 9223372036854775807)
    (b4 : -9223372036854775808 ≤ o4 ∧ o4 ≤ 9223372036854775807) (b5 : -9223372036854775808 ≤ o5 ∧ o5 ≤ 9223372036854775807) (b6 : -9223372036854775808 ≤ o6 ∧ o6 ≤ 9223372036854775807) (b7 : -9223372036854775808 ≤ o7 ∧ o7 ≤ 9223372036854775807) :
    Calls Tryz.prog 14 #[.pointer (some ⟨T, 0, none⟩), .agg #[.int .i64 o0, .int .i64 o1, .int .i64 o2, .int .i64 o3, .int .i64 o4, .int .i64 o5, .int .i64 o6, .int .i64 o7]] w fun e w' => e = .returned (.bool true) ∧ Did Gd m n T A B t (pickOf o0 13) w w' := by
  have P1 := fun x => pick_nat o1 4 x b1.1 b1.2 (by omega) (by omega)
  have P2 := fun x => pick_nat o2 4 x b2.1 b2.2 (by omega) (by omega)
  have P3 := fun x => pick_nat o3 9 x b3.1 b3.2 (by omega) (by omega)
  have P0 := fun x => pick_any o0 13 x b0.1 b0.2 (by omega) (by omega)
  have P4 := fun x => pick_any o4 2 x b4.1 b4.2 (by omega) (by omega)
  have ko := BlkIs.new w #[.int .i64 o0, .int .i64 o1, .int .i64 o2, .int .i64 o3, .int .i64 o4, .int .i64 o5, .int .i64 o6, .int .i64 o7] 29
  have hb := (Below.refl w.heap.size w).alloc (Nat.le_refl _) (.cells #[.int .i64 o0, .int .i64 o1, .int .i64 o2, .int .i64 o3, .int .i64 o4, .int .i64 o5, .int .i64 o6, .int .i64 o7] 29)
  have hx := h.on hb
  have hTq : T < w.heap.size := h.lt.1
  rw [hK] at P0 ⊢
  clear hK h
  go_enter Tryz.func14, Tryz.ntmps14
  obtain ⟨c0, c1, c2, c3, c4, c5, c6, c7, -⟩ := ko.facts8
  obtain ⟨Qb, hQb⟩ : ∃ Qb, w.heap.size = Qb := ⟨_, rfl⟩
  go_wp2_with fail
  rw [hQb] at ko hb c0 c1 c2 c3 c4 c5 c6 c7
  obtain ⟨x, hxx⟩ : ∃ x, w.alloc (.cells #[.int .i64 o0, .int .i64 o1, .int .i64 o2, .int .i64 o3, .int .i64 o4, .int .i64 o5, .int .i64 o6, .int .i64 o7] 29) = x := ⟨_, rfl⟩
  rw [hxx] at ko hb hx c0 c1 c2 c3 c4 c5 c6 c7 ⊢
  clear hxx
  refine (P1 _).mono ?_
  rintro e _ ⟨i, hi, rfl, rfl⟩
  go_wp2_with fail
  refine (P2 _).mono ?_
  rintro e _ ⟨k, hk4, rfl, rfl⟩
  go_wp2_with fail
  refine (P3 _).mono ?_
  rintro e _ ⟨j, hj, rfl, rfl⟩
  go_wp2_with fail
  refine (P0 _).mono ?_
  rintro e _ ⟨rfl, rfl⟩
  clear P0 P1 P2 P3
  have hnx : n ≤ x.heap.size := Nat.le_trans hn hb.size
  have hBx : Below n w x := hb.mono (by omega)
  have hxd := hx.on ((Below.refl x.heap.size x).drew)
  obtain ⟨KA, hKA, -, -, hWA⟩ := hxd.goA hnx
  have MA := setPtrA hKA (N.os g) (t.R.getD k 0) j (t.R.getD i 0) (by omega)
  have MBf := fun KB (y : World) (hKB : HeapAt y KB B t.r) => setPtrA hKB (N.or g) (t.S.getD k 0) j (t.S.getD i 0) (by omega)
  rw [N.setPtrE g hk4 hi j] at MBf
  have HG := Lib.hid (N.setPtr g hi hk4 j)
  obtain ⟨s', hs'⟩ : ∃ s', t.s.setPtrS (t.R.getD k 0) j (t.R.getD i 0) = s' := ⟨_, rfl⟩
  obtain ⟨r', hr'⟩ : ∃ r', t.r.setPtrS (t.S.getD k 0) j (t.S.getD i 0) = r' := ⟨_, rfl⟩
  obtain ⟨E, hE⟩ : ∃ E, t.s.setPtrE (t.R.getD k 0) j (t.R.getD i 0) = E := ⟨_, rfl⟩
  have HAL : Hid (t.setPtr i k j = ⟨s', r', t.R, t.S⟩) := Lib.hid (by unfold St.setPtr; rw [hs', hr'])
  have HPN : Hid ((t.setPtr i k j).s.mv = t.s.mv ∧ ∀ x ∈ t.s.pn, x ∈ (t.setPtr i k j).s.pn) := Lib.hid (by
    show (t.s.setPtrS _ _ _).mv = t.s.mv ∧ ∀ x ∈ t.s.pn, x ∈ (t.s.setPtrS _ _ _).pn
    unfold Hp.setPtrS
    split <;> exact ⟨rfl, fun _ h => h⟩)
  rw [hs', hE] at MA
  rw [hr', hE] at MBf
  obtain ⟨ra, hra⟩ : ∃ ra, t.R.getD k 0 = ra := ⟨_, rfl⟩
  obtain ⟨rb, hrb⟩ : ∃ rb, t.S.getD k 0 = rb := ⟨_, rfl⟩
  obtain ⟨pa, hpa⟩ : ∃ pa, t.R.getD i 0 = pa := ⟨_, rfl⟩
  obtain ⟨pb, hpb⟩ : ∃ pb, t.S.getD i 0 = pb := ⟨_, rfl⟩
  rw [hra, hpa] at MA
  rw [hrb, hpb] at MBf
  have HC : Hid (∀ y s r, TwinFrom n y T A B ⟨s, r, t.R, t.S⟩ → (y.cell? ⟨T, 0, none⟩ = some (.pointer (some ⟨A, 0, none⟩)) ∧ y.cell? ⟨T, 1, none⟩ = some (.pointer (some ⟨B, 0, none⟩))) ∧ y.cell? ⟨T, 2 + k, none⟩ = some (.int .i64 ra) ∧ y.cell? ⟨T, 2 + i, none⟩ = some (.int .i64 pa) ∧ y.cell? ⟨T, 6 + k, none⟩ = some (.int .i64 rb) ∧ y.cell? ⟨T, 6 + i, none⟩ = some (.int .i64 pb)) := Lib.hid fun y s r hy => by
    obtain ⟨q0, q1, q2, q3, -⟩ := hy.cells
    refine ⟨⟨q0, q1⟩, ?_, ?_, ?_, ?_⟩
    · rw [← hra]; exact q2 k hk4
    · rw [← hpa]; exact q2 i hi
    · rw [← hrb]; exact q3 k hk4
    · rw [← hpb]; exact q3 i hi
  have MBf := Lib.hid MBf
  clear hs' hr' hE hra hrb hpa hpb c0 c1 c2 c3 c4 c5 c6 c7 ko hb hTq
  have k0 : (0 : Int) ≤ (k : Int) := by omega
  have k1 : (k : Int) < 4 := by omega
  have i0 : (0 : Int) ≤ (i : Int) := by omega
  have i1 : (i : Int) < 4 := by omega
  have dEE : ((E : Int) == (E : Int)) = true := by simp
  go_wp2_with fail
  refine wp_region_held_drew (S := fun y => (y.cell? ⟨T, 0, none⟩ = some (.pointer (some ⟨A, 0, none⟩)) ∧ y.cell? ⟨T, 1, none⟩ = some (.pointer (some ⟨B, 0, none⟩))) ∧ y.cell? ⟨T, 2 + k, none⟩ = some (.int .i64 ra) ∧ y.cell? ⟨T, 2 + i, none⟩ = some (.int .i64 pa) ∧ y.cell? ⟨T, 6 + k, none⟩ = some (.int .i64 rb) ∧ y.cell? ⟨T, 6 + i, none⟩ = some (.int .i64 pb)) (by kernel_rfl) (HC.out _ t.s t.r hxd) (fun hS => ?_)
  have hc_ : Cnt 0 := trivial
  iterate 17 ((first | (refine takeC hc_ (v := ?_) rfl (by kernel_rfl) (by kernel_rfl) (by kernel_rfl) (fun _ _ _ h => h) (Or.inl ⟨by rfl, ?_⟩) hS ?_; rotate_left; (· (intro y hy; (try dsimp only at hy); go_simp; try with_reducible rfl))) | refine takeC hc_ (v := undef) rfl (by kernel_rfl) (by kernel_rfl) (by kernel_rfl) (fun _ _ _ h => h) (Or.inr ⟨by rfl, rfl⟩) hS ?_); try simp only [Act.put, List.setIfInBounds_toArray, List.set_cons_zero, List.set_cons_succ, List.getElem_toArray, List.append, List.getElem_cons_zero, List.getElem_cons_succ]; replace hc_ := hc_.next; simp only [Nat.reduceAdd] at hc_)
  clear hc_
  have hc_ : Cnt 18 := trivial
  iterate 17 ((first | (refine takeC hc_ (v := ?_) rfl (by kernel_rfl) (by kernel_rfl) (by kernel_rfl) (fun _ _ _ h => h) (Or.inl ⟨by rfl, ?_⟩) hS ?_; rotate_left; (· (intro y hy; (try dsimp only at hy); go_simp; try with_reducible rfl))) | refine takeC hc_ (v := undef) rfl (by kernel_rfl) (by kernel_rfl) (by kernel_rfl) (fun _ _ _ h => h) (Or.inr ⟨by rfl, rfl⟩) hS ?_); try simp only [Act.put, List.setIfInBounds_toArray, List.set_cons_zero, List.set_cons_succ, List.getElem_toArray, List.append, List.getElem_cons_zero, List.getElem_cons_succ]; replace hc_ := hc_.next; simp only [Nat.reduceAdd] at hc_)
  clear hc_
  refine wpAnyH_ready (rs := [17]) (by kernel_rfl) (by simp) ?_
  refine AllReadyH.cons (o := _) rfl (fun K hK => ?_) AllReadyH.nil
  go_simp
  refine MA.mono ?_
  rintro e z2 ⟨rfl, hW⟩
  obtain ⟨hx2, hB2⟩ := hWA _ _ hW
  have hnz2 : n ≤ z2.heap.size := by have := hB2.size; have : x.drew.heap.size = x.heap.size := rfl; omega
  replace hB2 := hBx.trans ((Below.refl n x).drew.trans hB2)
  refine hK.out _ _ (HC.out _ s' t.r hx2) (fun hS => ?_)
  clear hK K
  try simp only [Act.put, List.setIfInBounds_toArray, List.set_cons_zero, List.set_cons_succ]
  clear MA hW hWA hKA hxd
  obtain ⟨KB, hKB, -, -, hWB⟩ := hx2.goB hnz2
  have MB := MBf.out KB _ hKB
  refine wpAnyH_ready (rs := [35]) (by kernel_rfl) (by simp) ?_
  refine AllReadyH.cons (o := _) rfl (fun K hK => ?_) AllReadyH.nil
  go_simp
  refine MB.mono ?_
  rintro e z3 ⟨rfl, hW⟩
  obtain ⟨hx3, hB3⟩ := hWB _ _ hW
  replace hB3 := hB2.trans hB3
  refine hK.out _ _ (HC.out _ s' r' hx3) (fun hS => ?_)
  clear hK K
  try simp only [Act.put, List.setIfInBounds_toArray, List.set_cons_zero, List.set_cons_succ]
  have hc_ : Cnt 36 := trivial
  iterate 2 ((first | (refine takeC hc_ (v := ?_) rfl (by kernel_rfl) (by kernel_rfl) (by kernel_rfl) (fun _ _ _ h => h) (Or.inl ⟨by rfl, ?_⟩) hS ?_; rotate_left; (· (intro y hy; (try dsimp only at hy); go_simp; try with_reducible rfl))) | refine takeC hc_ (v := undef) rfl (by kernel_rfl) (by kernel_rfl) (by kernel_rfl) (fun _ _ _ h => h) (Or.inr ⟨by rfl, rfl⟩) hS ?_); try simp only [Act.put, List.setIfInBounds_toArray, List.set_cons_zero, List.set_cons_succ, List.getElem_toArray, List.append, List.getElem_cons_zero, List.getElem_cons_succ]; replace hc_ := hc_.next; simp only [Nat.reduceAdd] at hc_)
  clear hc_
  refine wpAnyH_done (by kernel_rfl) ?_ _
  clear hS
  go_wp2_with fail
  go_ret
  exact ⟨rfl, t.setPtr i k j, by rw [HAL.out]; exact hx3, N.more HG.out (by omega), hB3, fun _ => HPN.out⟩

end Go.Proofs.YtbjmeibcphmgbaaGreat

namespace Go.Proofs.YtbjmeibcphmgbaaGreat
open Go.ChangeShapes Go.WideShapes Go.ChangeAt Go.RowKit

set_option linter.unusedSimpArgs false
set_option linter.unusedVariables false


set_option maxRecDepth 100000 in
set_option maxHeartbeats 4000000 in
theorem does_8 (o0 : Int) (hK : pickOf o0 13 = 8)
    {Gd : Nat → St → Prop} {m n : Nat} {T A B : Nat} {t : St} {w : World} (N : Nice Gd) (hn : n ≤ w.heap.size) (h : TwinFrom n w T A B t) (g : Gd m t) (hm : m ≤ 500) (o1 o2 o3 o4 o5 o6 o7 : Int)
    (b0 : -9223372036854775808 ≤ o0 ∧ o0 ≤ 9223372036854775807) (b1 : -9223372036854775808 ≤ o1 ∧ o1 ≤ 9223372036854775807) (b2 : -9223372036854775808 ≤ o2 ∧ o2 ≤ 9223372036854775807) (b3 : -9223372036854775808 ≤ o3 ∧ o3 ≤ 9223372036854775807)
    (b4 : -9223372036854775808 ≤ o4 ∧ o4 ≤ 9223372036854775807) (b5 : -9223372036854775808 ≤ o5 ∧ o5 ≤ 9223372036854775807) (b6 : -9223372036854775808 ≤ o6 ∧ o6 ≤ 9223372036854775807) (b7 : -9223372036854775808 ≤ o7 ∧ o7 ≤ 9223372036854775807) :
    Calls Tryz.prog 14 #[.pointer (some ⟨T, 0, none⟩), .agg #[.int .i64 o0, .int .i64 o1, .int .i64 o2, .int .i64 o3, .int .i64 o4, .int .i64 o5, .int .i64 o6, .int .i64 o7]] w fun e w' => e = .returned (.bool true) ∧ Did Gd m n T A B t (pickOf o0 13) w w' := by
  have P1 := fun x => pick_nat o1 4 x b1.1 b1.2 (by omega) (by omega)
  have P2 := fun x => pick_nat o2 4 x b2.1 b2.2 (by omega) (by omega)
  have P3 := fun x => pick_nat o3 9 x b3.1 b3.2 (by omega) (by omega)
  have P0 := fun x => pick_any o0 13 x b0.1 b0.2 (by omega) (by omega)
  have P4 := fun x => pick_any o4 2 x b4.1 b4.2 (by omega) (by omega)
  have ko := BlkIs.new w #[.int .i64 o0, .int .i64 o1, .int .i64 o2, .int .i64 o3, .int .i64 o4, .int .i64 o5, .int .i64 o6, .int .i64 o7] 29
  have hb := (Below.refl w.heap.size w).alloc (Nat.le_refl _) (.cells #[.int .i64 o0, .int .i64 o1, .int .i64 o2, .int .i64 o3, .int .i64 o4, .int .i64 o5, .int .i64 o6, .int .i64 o7] 29)
  have hx := h.on hb
  have hTq : T < w.heap.size := h.lt.1
  rw [hK] at P0 ⊢
  clear hK h
  go_enter Tryz.func14, Tryz.ntmps14
  obtain ⟨c0, c1, c2, c3, c4, c5, c6, c7, -⟩ := ko.facts8
  obtain ⟨Qb, hQb⟩ : ∃ Qb, w.heap.size = Qb := ⟨_, rfl⟩
  go_wp2_with fail
  rw [hQb] at ko hb c0 c1 c2 c3 c4 c5 c6 c7
  obtain ⟨x, hxx⟩ : ∃ x, w.alloc (.cells #[.int .i64 o0, .int .i64 o1, .int .i64 o2, .int .i64 o3, .int .i64 o4, .int .i64 o5, .int .i64 o6, .int .i64 o7] 29) = x := ⟨_, rfl⟩
  rw [hxx] at ko hb hx c0 c1 c2 c3 c4 c5 c6 c7 ⊢
  clear hxx
  refine (P1 _).mono ?_
  rintro e _ ⟨i, hi, rfl, rfl⟩
  go_wp2_with fail
  refine (P2 _).mono ?_
  rintro e _ ⟨k, hk4, rfl, rfl⟩
  go_wp2_with fail
  refine (P3 _).mono ?_
  rintro e _ ⟨j, hj, rfl, rfl⟩
  go_wp2_with fail
  refine (P0 _).mono ?_
  rintro e _ ⟨rfl, rfl⟩
  clear P0 P1 P2 P3
  have hnx : n ≤ x.heap.size := Nat.le_trans hn hb.size
  have hBx : Below n w x := hb.mono (by omega)
  have hxd := hx.on ((Below.refl x.heap.size x).drew)
  obtain ⟨KA, hKA, hKt, -, hWA⟩ := hxd.goA hnx
  have MA := setNumA hKA (N.os g) (t.R.getD k 0) j o4 (by omega) b4.1 b4.2
  have MBf := fun KB (y : World) (hKB : HeapAt y KB B t.r) => setNumA hKB (N.or g) (t.S.getD k 0) j o4 (by omega) b4.1 b4.2
  rw [N.setNumE g hk4 j] at MBf
  obtain ⟨tf, htf⟩ : ∃ tf : Bool, (Int.tmod o4 3 == 0) = tf := ⟨_, rfl⟩
  have G1 := N.setNum g hk4 j o4
  have G2 := N.setFr G1 hk4 tf
  have MCf := fun KC (y : World) (hKC : HeapAt y KC A (t.setNum k j o4).s) => setFreedA hKC (N.os G1) (t.R.getD k 0) tf
  have MDf := fun KC (y : World) (hKC : HeapAt y KC B (t.setNum k j o4).r) => setFreedA hKC (N.or G1) (t.S.getD k 0) tf
  have hfr : (t.setNum k j o4).r.frE (t.S.getD k 0) = (t.setNum k j o4).s.frE (t.R.getD k 0) := N.frE G1 hk4
  rw [hfr] at MDf
  have HG := Lib.hid G2
  have HPN : Hid (((t.setNum k j o4).setFr k tf).s.mv = t.s.mv ∧ ∀ x ∈ t.s.pn, x ∈ ((t.setNum k j o4).setFr k tf).s.pn) := Lib.hid (by
    show ((t.s.setNumS _ _ _).frS _ _).mv = t.s.mv ∧ ∀ x ∈ t.s.pn, x ∈ ((t.s.setNumS _ _ _).frS _ _).pn
    unfold Hp.frS Hp.setNumS
    split <;> split <;> exact ⟨rfl, fun _ h => h⟩)
  obtain ⟨s', hs'⟩ : ∃ s', t.s.setNumS (t.R.getD k 0) j o4 = s' := ⟨_, rfl⟩
  obtain ⟨r', hr'⟩ : ∃ r', t.r.setNumS (t.S.getD k 0) j o4 = r' := ⟨_, rfl⟩
  obtain ⟨E, hE⟩ : ∃ E, t.s.setNumE (t.R.getD k 0) j = E := ⟨_, rfl⟩
  have hal1 : t.setNum k j o4 = ⟨s', r', t.R, t.S⟩ := by unfold St.setNum; rw [hs', hr']
  rw [hal1] at MCf MDf
  dsimp only at MCf MDf
  obtain ⟨s2, hs2⟩ : ∃ s2, s'.frS (t.R.getD k 0) tf = s2 := ⟨_, rfl⟩
  obtain ⟨r2, hr2⟩ : ∃ r2, r'.frS (t.S.getD k 0) tf = r2 := ⟨_, rfl⟩
  obtain ⟨F, hF⟩ : ∃ F, s'.frE (t.R.getD k 0) = F := ⟨_, rfl⟩
  have HAL : Hid ((t.setNum k j o4).setFr k tf = ⟨s2, r2, t.R, t.S⟩) := Lib.hid (by rw [hal1]; unfold St.setFr; dsimp only; rw [hs2, hr2])
  rw [hs', hE] at MA
  rw [hr', hE] at MBf
  rw [hs2, hF] at MCf
  rw [hr2, hF] at MDf
  obtain ⟨ra, hra⟩ : ∃ ra, t.R.getD k 0 = ra := ⟨_, rfl⟩
  obtain ⟨rb, hrb⟩ : ∃ rb, t.S.getD k 0 = rb := ⟨_, rfl⟩
  rw [hra] at MA MCf
  rw [hrb] at MBf MDf
  have HC : Hid (∀ y s r, TwinFrom n y T A B ⟨s, r, t.R, t.S⟩ → BlkIs y Qb #[.int .i64 o0, .int .i64 o1, .int .i64 o2, .int .i64 o3, .int .i64 o4, .int .i64 o5, .int .i64 o6, .int .i64 o7] 29 → (y.cell? ⟨T, 0, none⟩ = some (.pointer (some ⟨A, 0, none⟩)) ∧ y.cell? ⟨T, 1, none⟩ = some (.pointer (some ⟨B, 0, none⟩))) ∧ y.cell? ⟨T, 2 + k, none⟩ = some (.int .i64 ra) ∧ y.cell? ⟨T, 6 + k, none⟩ = some (.int .i64 rb) ∧ y.cell? ⟨Qb, 4, none⟩ = some (.int .i64 o4)) := Lib.hid fun y s r hy hq => by
    obtain ⟨q0, q1, q2, q3, -⟩ := hy.cells
    refine ⟨⟨q0, q1⟩, ?_, ?_, hq.cell 4⟩
    · rw [← hra]; exact q2 k hk4
    · rw [← hrb]; exact q3 k hk4
  have MBf := Lib.hid MBf
  have MCf := Lib.hid MCf
  have MDf := Lib.hid MDf
  replace ko := ko.on ((Below.refl x.heap.size x).drew)
  clear hs' hr' hE hra hrb hs2 hr2 hF hal1 hfr G1 G2 c0 c1 c2 c3 c4 c5 c6 c7 hb hTq
  have k0 : (0 : Int) ≤ (k : Int) := by omega
  have k1 : (k : Int) < 4 := by omega
  have dEE : ((E : Int) == (E : Int)) = true := by simp
  have dFF : ((F : Int) == (F : Int)) = true := by simp
  go_wp2_with fail
  refine wp_region_held_drew (S := fun y => (y.cell? ⟨T, 0, none⟩ = some (.pointer (some ⟨A, 0, none⟩)) ∧ y.cell? ⟨T, 1, none⟩ = some (.pointer (some ⟨B, 0, none⟩))) ∧ y.cell? ⟨T, 2 + k, none⟩ = some (.int .i64 ra) ∧ y.cell? ⟨T, 6 + k, none⟩ = some (.int .i64 rb) ∧ y.cell? ⟨Qb, 4, none⟩ = some (.int .i64 o4)) (by kernel_rfl) (HC.out _ t.s t.r hxd ko) (fun hS => ?_)
  have hc_ : Cnt 0 := trivial
  iterate 13 ((first | (refine takeC hc_ (v := ?_) rfl (by kernel_rfl) (by kernel_rfl) (by kernel_rfl) (fun _ _ _ h => h) (Or.inl ⟨by rfl, ?_⟩) hS ?_; rotate_left; (· (intro y hy; (try dsimp only at hy); go_simp; try with_reducible rfl))) | refine takeC hc_ (v := undef) rfl (by kernel_rfl) (by kernel_rfl) (by kernel_rfl) (fun _ _ _ h => h) (Or.inr ⟨by rfl, rfl⟩) hS ?_); try simp only [Act.put, List.setIfInBounds_toArray, List.set_cons_zero, List.set_cons_succ, List.getElem_toArray, List.append, List.getElem_cons_zero, List.getElem_cons_succ]; replace hc_ := hc_.next; simp only [Nat.reduceAdd] at hc_)
  clear hc_
  have hc_ : Cnt 14 := trivial
  iterate 13 ((first | (refine takeC hc_ (v := ?_) rfl (by kernel_rfl) (by kernel_rfl) (by kernel_rfl) (fun _ _ _ h => h) (Or.inl ⟨by rfl, ?_⟩) hS ?_; rotate_left; (· (intro y hy; (try dsimp only at hy); go_simp; try with_reducible rfl))) | refine takeC hc_ (v := undef) rfl (by kernel_rfl) (by kernel_rfl) (by kernel_rfl) (fun _ _ _ h => h) (Or.inr ⟨by rfl, rfl⟩) hS ?_); try simp only [Act.put, List.setIfInBounds_toArray, List.set_cons_zero, List.set_cons_succ, List.getElem_toArray, List.append, List.getElem_cons_zero, List.getElem_cons_succ]; replace hc_ := hc_.next; simp only [Nat.reduceAdd] at hc_)
  clear hc_
  refine wpAnyH_ready (rs := [13]) (by kernel_rfl) (by simp) ?_
  refine AllReadyH.cons (o := _) rfl (fun K hK => ?_) AllReadyH.nil
  go_simp
  refine MA.mono ?_
  rintro e z2 ⟨rfl, hW⟩
  obtain ⟨hx2, hB2⟩ := hWA _ _ hW
  replace ko := hW.blk ko (hKt.not ko (by decide) (by decide) (by decide) (by decide))
  have hnz2 : n ≤ z2.heap.size := by have := hB2.size; have : x.drew.heap.size = x.heap.size := rfl; omega
  replace hB2 := hBx.trans ((Below.refl n x).drew.trans hB2)
  refine hK.out _ _ (HC.out _ s' t.r hx2 ko) (fun hS => ?_)
  clear hK K
  try simp only [Act.put, List.setIfInBounds_toArray, List.set_cons_zero, List.set_cons_succ]
  clear MA hW hWA hKA hxd hKt
  obtain ⟨KB, hKB, hKt, -, hWB⟩ := hx2.goB hnz2
  have MB := MBf.out KB _ hKB
  refine wpAnyH_ready (rs := [27]) (by kernel_rfl) (by simp) ?_
  refine AllReadyH.cons (o := _) rfl (fun K hK => ?_) AllReadyH.nil
  go_simp
  refine MB.mono ?_
  rintro e z3 ⟨rfl, hW⟩
  obtain ⟨hx3, hB3⟩ := hWB _ _ hW
  replace ko := hW.blk ko (hKt.not ko (by decide) (by decide) (by decide) (by decide))
  have hnz3 : n ≤ z3.heap.size := by have := hB3.size; omega
  replace hB3 := hB2.trans hB3
  refine hK.out _ _ (HC.out _ s' r' hx3 ko) (fun hS => ?_)
  clear hK K
  try simp only [Act.put, List.setIfInBounds_toArray, List.set_cons_zero, List.set_cons_succ]
  clear MB hW hWB hKB hKt hx2 hB2
  have hc_ : Cnt 28 := trivial
  iterate 16 ((first | (refine takeC hc_ (v := ?_) rfl (by kernel_rfl) (by kernel_rfl) (by kernel_rfl) (fun _ _ _ h => h) (Or.inl ⟨by rfl, ?_⟩) hS ?_; rotate_left; (· (intro y hy; (try dsimp only at hy); go_simp; try with_reducible rfl))) | refine takeC hc_ (v := undef) rfl (by kernel_rfl) (by kernel_rfl) (by kernel_rfl) (fun _ _ _ h => h) (Or.inr ⟨by rfl, rfl⟩) hS ?_); try simp only [Act.put, List.setIfInBounds_toArray, List.set_cons_zero, List.set_cons_succ, List.getElem_toArray, List.append, List.getElem_cons_zero, List.getElem_cons_succ]; replace hc_ := hc_.next; simp only [Nat.reduceAdd] at hc_)
  clear hc_
  have hc_ : Cnt 45 := trivial
  iterate 14 ((first | (refine takeC hc_ (v := ?_) rfl (by kernel_rfl) (by kernel_rfl) (by kernel_rfl) (fun _ _ _ h => h) (Or.inl ⟨by rfl, ?_⟩) hS ?_; rotate_left; (· (intro y hy; (try dsimp only at hy); go_simp; try with_reducible rfl))) | refine takeC hc_ (v := undef) rfl (by kernel_rfl) (by kernel_rfl) (by kernel_rfl) (fun _ _ _ h => h) (Or.inr ⟨by rfl, rfl⟩) hS ?_); try simp only [Act.put, List.setIfInBounds_toArray, List.set_cons_zero, List.set_cons_succ, List.getElem_toArray, List.append, List.getElem_cons_zero, List.getElem_cons_succ]; replace hc_ := hc_.next; simp only [Nat.reduceAdd] at hc_)
  clear hc_
  obtain ⟨KC, hKC, hKt, -, hWC⟩ := hx3.goA hnz3
  have MC := MCf.out KC _ hKC
  refine wpAnyH_ready (rs := [44]) (by kernel_rfl) (by simp) ?_
  refine AllReadyH.cons (o := _) rfl (fun K hK => ?_) AllReadyH.nil
  go_simp
  refine MC.mono ?_
  rintro e z4 ⟨rfl, hW⟩
  obtain ⟨hx4, hB4⟩ := hWC _ _ hW
  replace ko := hW.blk ko (hKt.not ko (by decide) (by decide) (by decide) (by decide))
  have hnz4 : n ≤ z4.heap.size := by have := hB4.size; omega
  replace hB4 := hB3.trans hB4
  refine hK.out _ _ (HC.out _ s2 r' hx4 ko) (fun hS => ?_)
  clear hK K
  try simp only [Act.put, List.setIfInBounds_toArray, List.set_cons_zero, List.set_cons_succ]
  clear MC hW hWC hKC hKt hx3 hB3
  obtain ⟨KD, hKD, hKt, -, hWD⟩ := hx4.goB hnz4
  have MD := MDf.out KD _ hKD
  refine wpAnyH_ready (rs := [59]) (by kernel_rfl) (by simp) ?_
  refine AllReadyH.cons (o := _) rfl (fun K hK => ?_) AllReadyH.nil
  go_simp
  refine MD.mono ?_
  rintro e z5 ⟨rfl, hW⟩
  obtain ⟨hx5, hB5⟩ := hWD _ _ hW
  replace ko := hW.blk ko (hKt.not ko (by decide) (by decide) (by decide) (by decide))
  replace hB5 := hB4.trans hB5
  refine hK.out _ _ (HC.out _ s2 r2 hx5 ko) (fun hS => ?_)
  clear hK K
  try simp only [Act.put, List.setIfInBounds_toArray, List.set_cons_zero, List.set_cons_succ]
  clear MD hW hWD hKD hKt hx4 hB4
  have hc_ : Cnt 60 := trivial
  iterate 3 ((first | (refine takeC hc_ (v := ?_) rfl (by kernel_rfl) (by kernel_rfl) (by kernel_rfl) (fun _ _ _ h => h) (Or.inl ⟨by rfl, ?_⟩) hS ?_; rotate_left; (· (intro y hy; (try dsimp only at hy); go_simp; try with_reducible rfl))) | refine takeC hc_ (v := undef) rfl (by kernel_rfl) (by kernel_rfl) (by kernel_rfl) (fun _ _ _ h => h) (Or.inr ⟨by rfl, rfl⟩) hS ?_); try simp only [Act.put, List.setIfInBounds_toArray, List.set_cons_zero, List.set_cons_succ, List.getElem_toArray, List.append, List.getElem_cons_zero, List.getElem_cons_succ]; replace hc_ := hc_.next; simp only [Nat.reduceAdd] at hc_)
  clear hc_
  refine wpAnyH_done (by kernel_rfl) ?_ _
  clear hS
  go_wp2_with fail
  go_ret
  exact ⟨rfl, _, by rw [HAL.out]; exact hx5, N.more HG.out (by omega), hB5, fun _ => HPN.out⟩

end Go.Proofs.YtbjmeibcphmgbaaGreat

namespace Go.Proofs.YtbjmeibcphmgbaaGreat
open Go.ChangeShapes Go.WideShapes Go.ChangeAt Go.RowKit

set_option linter.unusedSimpArgs false
set_option linter.unusedVariables false

/-- The first j registers are moved. -/
theorem movs_set (s0 : Hp) {ps : List Nat} {j : Nat} (hj : j < ps.length) : (s0.movVL (ps.take j) ++ ps.drop j).set j ((s0.movedL (ps.take j)).movV (ps.getD j 0)) = s0.movVL (ps.take (j + 1)) ++ ps.drop (j + 1) := by
  have hl : (s0.movVL (ps.take j)).length = j := by rw [movVL_length, List.length_take]; omega
  rw [List.set_append_right _ _ (by omega), hl, Nat.sub_self, take_next' hj, movVL_snoc, List.append_assoc]
  congr 1
  rw [List.drop_eq_getElem_cons hj]
  rfl
theorem movs_get (s0 : Hp) {ps : List Nat} {j : Nat} (hj : j < ps.length) : (s0.movVL (ps.take j) ++ ps.drop j).getD j 0 = ps.getD j 0 := by
  have hl : (s0.movVL (ps.take j)).length = j := by rw [movVL_length, List.length_take]; omega
  rw [List.getD_eq_getElem?_getD, List.getElem?_append_right (by omega), hl, Nat.sub_self, List.getElem?_drop, Nat.add_zero, List.getD_eq_getElem?_getD]


set_option maxRecDepth 100000 in
set_option maxHeartbeats 4000000 in
theorem does_9 (o0 : Int) (hK : pickOf o0 13 = 9)
    {Gd : Nat → St → Prop} {m n : Nat} {T A B : Nat} {t : St} {w : World} (N : Nice Gd) (hn : n ≤ w.heap.size) (h : TwinFrom n w T A B t) (g : Gd m t) (hm : m ≤ 500) (o1 o2 o3 o4 o5 o6 o7 : Int)
    (b0 : -9223372036854775808 ≤ o0 ∧ o0 ≤ 9223372036854775807) (b1 : -9223372036854775808 ≤ o1 ∧ o1 ≤ 9223372036854775807) (b2 : -9223372036854775808 ≤ o2 ∧ o2 ≤ 9223372036854775807) (b3 : -9223372036854775808 ≤ o3 ∧ o3 ≤ 9223372036854775807)
    (b4 : -9223372036854775808 ≤ o4 ∧ o4 ≤ 9223372036854775807) (b5 : -9223372036854775808 ≤ o5 ∧ o5 ≤ 9223372036854775807) (b6 : -9223372036854775808 ≤ o6 ∧ o6 ≤ 9223372036854775807) (b7 : -9223372036854775808 ≤ o7 ∧ o7 ≤ 9223372036854775807) :
    Calls Tryz.prog 14 #[.pointer (some ⟨T, 0, none⟩), .agg #[.int .i64 o0, .int .i64 o1, .int .i64 o2, .int .i64 o3, .int .i64 o4, .int .i64 o5, .int .i64 o6, .int .i64 o7]] w fun e w' => e = .returned (.bool true) ∧ Did Gd m n T A B t (pickOf o0 13) w w' := by
  have P1 := fun x => pick_nat o1 4 x b1.1 b1.2 (by omega) (by omega)
  have P2 := fun x => pick_nat o2 4 x b2.1 b2.2 (by omega) (by omega)
  have P3 := fun x => pick_nat o3 9 x b3.1 b3.2 (by omega) (by omega)
  have P0 := fun x => pick_any o0 13 x b0.1 b0.2 (by omega) (by omega)
  have P4 := fun x => pick_any o4 2 x b4.1 b4.2 (by omega) (by omega)
  have ko := BlkIs.new w #[.int .i64 o0, .int .i64 o1, .int .i64 o2, .int .i64 o3, .int .i64 o4, .int .i64 o5, .int .i64 o6, .int .i64 o7] 29
  have hb := (Below.refl w.heap.size w).alloc (Nat.le_refl _) (.cells #[.int .i64 o0, .int .i64 o1, .int .i64 o2, .int .i64 o3, .int .i64 o4, .int .i64 o5, .int .i64 o6, .int .i64 o7] 29)
  have hx := h.on hb
  have hTq : T < w.heap.size := h.lt.1
  rw [hK] at P0 ⊢
  clear hK h
  go_enter Tryz.func14, Tryz.ntmps14
  obtain ⟨c0, c1, c2, c3, c4, c5, c6, c7, -⟩ := ko.facts8
  obtain ⟨Qb, hQb⟩ : ∃ Qb, w.heap.size = Qb := ⟨_, rfl⟩
  go_wp2_with fail
  rw [hQb] at ko hb c0 c1 c2 c3 c4 c5 c6 c7
  obtain ⟨x, hxx⟩ : ∃ x, w.alloc (.cells #[.int .i64 o0, .int .i64 o1, .int .i64 o2, .int .i64 o3, .int .i64 o4, .int .i64 o5, .int .i64 o6, .int .i64 o7] 29) = x := ⟨_, rfl⟩
  rw [hxx] at ko hb hx c0 c1 c2 c3 c4 c5 c6 c7 ⊢
  clear hxx
  refine (P1 _).mono ?_
  rintro e _ ⟨i, hi, rfl, rfl⟩
  go_wp2_with fail
  refine (P2 _).mono ?_
  rintro e _ ⟨k, hk4, rfl, rfl⟩
  go_wp2_with fail
  refine (P3 _).mono ?_
  rintro e _ ⟨j, hj, rfl, rfl⟩
  go_wp2_with fail
  refine (P0 _).mono ?_
  rintro e _ ⟨rfl, rfl⟩
  clear P0 P1 P2 P3
  have hnx : n ≤ x.heap.size := Nat.le_trans hn hb.size
  have hBx : Below n w x := hb.mono (by omega)
  obtain ⟨KA, hKA, hKt, -, hWA⟩ := hx.goA hnx
  have MA := flipA_all hKA (N.os g)
  obtain ⟨cA, -⟩ := hx.cells
  clear c0 c1 c2 c3 c4 c5 c6 c7 ko hb b0 b1 b2 b3 b4 b5 b6 b7 P4
  cases hmv : t.s.mv with
  | true =>
    rw [if_pos hmv, hmv] at MA
    go_wp2_with fail
    refine MA.mono ?_
    rintro e y1 ⟨rfl, hW⟩
    obtain ⟨hx2, hB2⟩ := hWA _ _ hW
    have hD : Did Gd m n T A B t 9 w y1 := ⟨t, hx2, N.more g (by omega), hBx.trans hB2, fun h => absurd h (by decide)⟩
    clear MA hW hWA hKA hx cA
    go_wp2
    go_ret
    exact ⟨rfl, hD⟩
  | false =>
    rw [if_neg (by rw [hmv]; decide), hmv] at MA
    have hg' := N.flip g hmv
    have HG := Lib.hid hg'
    have HO := Lib.hid ((N.os g).flip hmv)
    have HIN : Hid (∀ x ∈ t.R, InOk t.s.flip x) := Lib.hid fun x hx => ((N.ri g) x hx).imp id .inr
    have hR4 := (N.rl g)
    go_wp2_with fail
    refine MA.mono ?_
    rintro e y1 ⟨rfl, hW⟩
    obtain ⟨hx2, hB2⟩ := hWA _ _ hW
    replace hB2 := hBx.trans hB2
    have hst : ({ t with s := t.s.flip } : St) = ⟨t.s.flip, t.r, t.R, t.S⟩ := rfl
    obtain ⟨s0, hs0⟩ : ∃ s0, t.s.flip = s0 := ⟨_, rfl⟩
    have hfl : t.flip = ⟨s0.movedL t.R, t.r, s0.movVL t.R, t.S⟩ := by unfold St.flip; rw [hs0]
    have HFL := Lib.hid hfl
    rw [hs0] at hx2 HO HIN
    clear MA hW hWA hKA hx cA hst hs0 hfl hg' hKt
    have hx3 : Hid (TwinFrom n y1 T A B ⟨s0.movedL (t.R.take 0), t.r, s0.movVL (t.R.take 0) ++ t.R.drop 0, t.S⟩) := Lib.hid hx2
    have hnz : n ≤ y1.heap.size := by have := hB2.size; omega
    go_wp2_with fail
    go_loopw [20] (fun i wr => ∃ l : Nat, l ≤ 4 ∧ i = .int .i64 l ∧ Hid (TwinFrom n wr T A B ⟨s0.movedL (t.R.take l), t.r, s0.movVL (t.R.take l) ++ t.R.drop l, t.S⟩) ∧ Below n w wr) (fun i _ => 4 - (intOf i).toNat)
    case atStart => exact ⟨0, by omega, rfl, hx3, hB2⟩
    case round =>
      clear hx3 hx2
      obtain ⟨l, hl, rfl, hx3, hB⟩ := hrel
      have hnr : n ≤ wr.heap.size := by have := hB.size; omega
      by_cases hl4 : l < 4
      · have d0 : decide ((l : Int) < 4) = true := decide_eq_true (by omega)
        have l0 : (0 : Int) ≤ (l : Int) := by omega
        have l1 : (l : Int) < 4 := by omega
        have hd := (Below.refl wr.heap.size wr).drew
        have hx4 := hx3.out.on hd
        obtain ⟨KA, hKA, -, -, hWA⟩ := hx4.goA hnr
        have hpl : l < t.R.length := by omega
        have MA := movedH (HO.out.movedL (t.R.take l)) hKA (p := t.R.getD l 0) (inOk_movedL (t.R.take l) (HIN.out _ (getD_memN hpl)))
        obtain ⟨cA, -, cR, -, -⟩ := hx4.cells
        have cRl := cR l hl4
        dsimp only at cRl
        rw [movs_get s0 hpl] at cRl
        have HSET := Lib.hid (movs_set s0 hpl)
        rw [← movedL_snoc, ← take_next' hpl] at MA
        obtain ⟨pl, hpl2⟩ : ∃ pl, t.R.getD l 0 = pl := ⟨_, rfl⟩
        rw [hpl2] at MA cRl HSET
        obtain ⟨v, hv⟩ : ∃ v, (s0.movedL (t.R.take l)).movV pl = v := ⟨_, rfl⟩
        rw [hv] at MA HSET
        obtain ⟨s1, hs1⟩ : ∃ s1, s0.movedL (t.R.take (l + 1)) = s1 := ⟨_, rfl⟩
        rw [hs1] at MA
        have HS1 := Lib.hid hs1
        clear hpl2 hv hs1 cR
        go_wp2_with fail
        refine wp_region_held_drew (S := fun y => y.cell? ⟨T, 0, none⟩ = some (.pointer (some ⟨A, 0, none⟩))) (by kernel_rfl) cA (fun hS => ?_)
        have hc_ : Cnt 0 := trivial
        iterate 11 ((first | (refine takeC hc_ (v := ?_) rfl (by kernel_rfl) (by kernel_rfl) (by kernel_rfl) (fun _ _ _ h => h) (Or.inl ⟨by rfl, ?_⟩) hS ?_; rotate_left; (· (intro y hy; (try dsimp only at hy); go_simp; try with_reducible rfl))) | refine takeC hc_ (v := undef) rfl (by kernel_rfl) (by kernel_rfl) (by kernel_rfl) (fun _ _ _ h => h) (Or.inr ⟨by rfl, rfl⟩) hS ?_); try simp only [Act.put, List.setIfInBounds_toArray, List.set_cons_zero, List.set_cons_succ, List.getElem_toArray, List.append, List.getElem_cons_zero, List.getElem_cons_succ]; replace hc_ := hc_.next; simp only [Nat.reduceAdd] at hc_)
        clear hc_
        have hc_ : Cnt 13 := trivial
        iterate 2 ((first | (refine takeC hc_ (v := ?_) rfl (by kernel_rfl) (by kernel_rfl) (by kernel_rfl) (fun _ _ _ h => h) (Or.inl ⟨by rfl, ?_⟩) hS ?_; rotate_left; (· (intro y hy; (try dsimp only at hy); go_simp; try with_reducible rfl))) | refine takeC hc_ (v := undef) rfl (by kernel_rfl) (by kernel_rfl) (by kernel_rfl) (fun _ _ _ h => h) (Or.inr ⟨by rfl, rfl⟩) hS ?_); try simp only [Act.put, List.setIfInBounds_toArray, List.set_cons_zero, List.set_cons_succ, List.getElem_toArray, List.append, List.getElem_cons_zero, List.getElem_cons_succ]; replace hc_ := hc_.next; simp only [Nat.reduceAdd] at hc_)
        clear hc_
        refine wpAnyH_ready (rs := [11]) (by kernel_rfl) (by simp) ?_
        refine AllReadyH.cons (o := _) rfl (fun K hK => ?_) AllReadyH.nil
        go_simp
        refine hK.out _ _ (cA) (fun hS => ?_)
        clear hK K
        try simp only [Act.put, List.setIfInBounds_toArray, List.set_cons_zero, List.set_cons_succ]
        refine wpAnyH_ready (rs := [12]) (by kernel_rfl) (by simp) ?_
        refine AllReadyH.cons (o := _) rfl (fun K hK => ?_) AllReadyH.nil
        go_simp
        refine MA.mono ?_
        rintro e y2 ⟨rfl, hW⟩
        obtain ⟨hx5, hB5⟩ := hWA _ _ hW
        obtain ⟨cA5, -, cR5, -, hfz⟩ := hx5.cells
        have cR5l := cR5 l hl4
        have fR := hfz (2 + l)
        refine hK.out _ _ (cA5) (fun hS => ?_)
        clear hK K
        try simp only [Act.put, List.setIfInBounds_toArray, List.set_cons_zero, List.set_cons_succ]
        have hc_ : Cnt 15 := trivial
        iterate 1 ((first | (refine takeC hc_ (v := ?_) rfl (by kernel_rfl) (by kernel_rfl) (by kernel_rfl) (fun _ _ _ h => h) (Or.inl ⟨by rfl, ?_⟩) hS ?_; rotate_left; (· (intro y hy; (try dsimp only at hy); go_simp; try with_reducible rfl))) | refine takeC hc_ (v := undef) rfl (by kernel_rfl) (by kernel_rfl) (by kernel_rfl) (fun _ _ _ h => h) (Or.inr ⟨by rfl, rfl⟩) hS ?_); try simp only [Act.put, List.setIfInBounds_toArray, List.set_cons_zero, List.set_cons_succ, List.getElem_toArray, List.append, List.getElem_cons_zero, List.getElem_cons_succ]; replace hc_ := hc_.next; simp only [Nat.reduceAdd] at hc_)
        clear hc_
        obtain ⟨hx6, hc6⟩ := hx5.setR hl4 v
        have cA6 := hx6.cells.1
        have hTn := hx5.lt.2
        have hn5 : n ≤ y2.heap.size := by have := hB5.size; have : wr.drew.heap.size = wr.heap.size := rfl; omega
        have hB6 := (hB.trans ((Below.refl n wr).drew.trans hB5)).trans (hc6.below (n := n) (fun c e => by omega) hn5)
        refine wpAnyH_ready (rs := [16]) (by kernel_rfl) (by simp) ?_
        refine AllReadyH.cons (o := _) rfl (fun K hK => ?_) AllReadyH.nil
        go_simp
        refine hK.out _ _ (cA6) (fun hS => ?_)
        clear hK K
        try simp only [Act.put, List.setIfInBounds_toArray, List.set_cons_zero, List.set_cons_succ]
        refine wpAnyH_done (by kernel_rfl) ?_ _
        have hx7 : Hid (TwinFrom n _ T A B ⟨s0.movedL (t.R.take (l + 1)), t.r, s0.movVL (t.R.take (l + 1)) ++ t.R.drop (l + 1), t.S⟩) := Lib.hid (by rw [HS1.out, ← HSET.out]; exact hx6)
        clear hx6 hx5 hc6 hS cA cA5 cA6 hW hWA hKA MA hx3 hx4 hB hB5 cR5 hfz cR5l fR cRl hd HSET HS1
        go_wp2
        go_roundw
        case rel => exact ⟨l + 1, by omega, by go_num, hx7, hB6⟩
        case measure => simp [intOf]; omega
      · obtain rfl : l = 4 := by omega
        have hx4 : Hid (TwinFrom n wr T A B t.flip) := Lib.hid (by
          have := hx3.out
          rw [List.take_of_length_le (by omega), List.drop_of_length_le (by omega), List.append_nil] at this
          rw [HFL.out]; exact this)
        have hD : Did Gd m n T A B t 9 w wr := ⟨t.flip, hx4.out, N.more HG.out (by omega), hB, fun h => absurd h (by decide)⟩
        clear hx3 hx4 hB HG HFL HO HIN
        go_wp2
        go_ret
        exact ⟨rfl, hD⟩

set_option maxRecDepth 100000 in
set_option maxHeartbeats 4000000 in
theorem does_10 (o0 : Int) (hK : pickOf o0 13 = 10)
    {Gd : Nat → St → Prop} {m n : Nat} {T A B : Nat} {t : St} {w : World} (N : Nice Gd) (hn : n ≤ w.heap.size) (h : TwinFrom n w T A B t) (g : Gd m t) (hm : m ≤ 500) (o1 o2 o3 o4 o5 o6 o7 : Int)
    (b0 : -9223372036854775808 ≤ o0 ∧ o0 ≤ 9223372036854775807) (b1 : -9223372036854775808 ≤ o1 ∧ o1 ≤ 9223372036854775807) (b2 : -9223372036854775808 ≤ o2 ∧ o2 ≤ 9223372036854775807) (b3 : -9223372036854775808 ≤ o3 ∧ o3 ≤ 9223372036854775807)
    (b4 : -9223372036854775808 ≤ o4 ∧ o4 ≤ 9223372036854775807) (b5 : -9223372036854775808 ≤ o5 ∧ o5 ≤ 9223372036854775807) (b6 : -9223372036854775808 ≤ o6 ∧ o6 ≤ 9223372036854775807) (b7 : -9223372036854775808 ≤ o7 ∧ o7 ≤ 9223372036854775807) :
    Calls Tryz.prog 14 #[.pointer (some ⟨T, 0, none⟩), .agg #[.int .i64 o0, .int .i64 o1, .int .i64 o2, .int .i64 o3, .int .i64 o4, .int .i64 o5, .int .i64 o6, .int .i64 o7]] w fun e w' => e = .returned (.bool true) ∧ Did Gd m n T A B t (pickOf o0 13) w w' := by
  have P1 := fun x => pick_nat o1 4 x b1.1 b1.2 (by omega) (by omega)
  have P2 := fun x => pick_nat o2 4 x b2.1 b2.2 (by omega) (by omega)
  have P3 := fun x => pick_nat o3 9 x b3.1 b3.2 (by omega) (by omega)
  have P0 := fun x => pick_any o0 13 x b0.1 b0.2 (by omega) (by omega)
  have P4 := fun x => pick_any o4 2 x b4.1 b4.2 (by omega) (by omega)
  have ko := BlkIs.new w #[.int .i64 o0, .int .i64 o1, .int .i64 o2, .int .i64 o3, .int .i64 o4, .int .i64 o5, .int .i64 o6, .int .i64 o7] 29
  have hb := (Below.refl w.heap.size w).alloc (Nat.le_refl _) (.cells #[.int .i64 o0, .int .i64 o1, .int .i64 o2, .int .i64 o3, .int .i64 o4, .int .i64 o5, .int .i64 o6, .int .i64 o7] 29)
  have hx := h.on hb
  have hTq : T < w.heap.size := h.lt.1
  rw [hK] at P0 ⊢
  clear hK h
  go_enter Tryz.func14, Tryz.ntmps14
  obtain ⟨c0, c1, c2, c3, c4, c5, c6, c7, -⟩ := ko.facts8
  obtain ⟨Qb, hQb⟩ : ∃ Qb, w.heap.size = Qb := ⟨_, rfl⟩
  go_wp2_with fail
  rw [hQb] at ko hb c0 c1 c2 c3 c4 c5 c6 c7
  obtain ⟨x, hxx⟩ : ∃ x, w.alloc (.cells #[.int .i64 o0, .int .i64 o1, .int .i64 o2, .int .i64 o3, .int .i64 o4, .int .i64 o5, .int .i64 o6, .int .i64 o7] 29) = x := ⟨_, rfl⟩
  rw [hxx] at ko hb hx c0 c1 c2 c3 c4 c5 c6 c7 ⊢
  clear hxx
  refine (P1 _).mono ?_
  rintro e _ ⟨i, hi, rfl, rfl⟩
  go_wp2_with fail
  refine (P2 _).mono ?_
  rintro e _ ⟨k, hk4, rfl, rfl⟩
  go_wp2_with fail
  refine (P3 _).mono ?_
  rintro e _ ⟨j, hj, rfl, rfl⟩
  go_wp2_with fail
  refine (P0 _).mono ?_
  rintro e _ ⟨rfl, rfl⟩
  clear P0 P1 P2 P3
  have hnx : n ≤ x.heap.size := Nat.le_trans hn hb.size
  have hBx : Below n w x := hb.mono (by omega)
  obtain ⟨KA, hKA, hKt, -, hWA⟩ := hx.goA hnx
  have MA := scanA hKA (N.os g)
  obtain ⟨cA, -⟩ := hx.cells
  clear c0 c1 c2 c3 c4 c5 c6 c7 ko hb b0 b1 b2 b3 b4 b5 b6 b7 P4
  go_wp2_with fail
  refine MA.mono ?_
  rintro e y1 ⟨⟨b, rfl, -⟩, hW⟩
  obtain ⟨hx2, hB2⟩ := hWA _ _ hW
  have hg' := N.scan g
  have hD : ∀ kd, ¬ kd < 9 → Did Gd m n T A B t kd w y1 := fun kd hkd => ⟨t.scan, hx2, N.more hg' (by omega), hBx.trans hB2, fun h => absurd h hkd⟩
  have hD := Lib.hid hD
  clear MA hW hWA hKA hx cA
  go_wp2
  go_ret
  exact ⟨rfl, hD.out _ (by decide)⟩

set_option maxRecDepth 100000 in
set_option maxHeartbeats 4000000 in
theorem does_11 (o0 : Int) (hK : pickOf o0 13 = 11)
    {Gd : Nat → St → Prop} {m n : Nat} {T A B : Nat} {t : St} {w : World} (N : Nice Gd) (hn : n ≤ w.heap.size) (h : TwinFrom n w T A B t) (g : Gd m t) (hm : m ≤ 500) (o1 o2 o3 o4 o5 o6 o7 : Int)
    (b0 : -9223372036854775808 ≤ o0 ∧ o0 ≤ 9223372036854775807) (b1 : -9223372036854775808 ≤ o1 ∧ o1 ≤ 9223372036854775807) (b2 : -9223372036854775808 ≤ o2 ∧ o2 ≤ 9223372036854775807) (b3 : -9223372036854775808 ≤ o3 ∧ o3 ≤ 9223372036854775807)
    (b4 : -9223372036854775808 ≤ o4 ∧ o4 ≤ 9223372036854775807) (b5 : -9223372036854775808 ≤ o5 ∧ o5 ≤ 9223372036854775807) (b6 : -9223372036854775808 ≤ o6 ∧ o6 ≤ 9223372036854775807) (b7 : -9223372036854775808 ≤ o7 ∧ o7 ≤ 9223372036854775807) :
    Calls Tryz.prog 14 #[.pointer (some ⟨T, 0, none⟩), .agg #[.int .i64 o0, .int .i64 o1, .int .i64 o2, .int .i64 o3, .int .i64 o4, .int .i64 o5, .int .i64 o6, .int .i64 o7]] w fun e w' => e = .returned (.bool true) ∧ Did Gd m n T A B t (pickOf o0 13) w w' := by
  have P1 := fun x => pick_nat o1 4 x b1.1 b1.2 (by omega) (by omega)
  have P2 := fun x => pick_nat o2 4 x b2.1 b2.2 (by omega) (by omega)
  have P3 := fun x => pick_nat o3 9 x b3.1 b3.2 (by omega) (by omega)
  have P0 := fun x => pick_any o0 13 x b0.1 b0.2 (by omega) (by omega)
  have P4 := fun x => pick_any o4 2 x b4.1 b4.2 (by omega) (by omega)
  have ko := BlkIs.new w #[.int .i64 o0, .int .i64 o1, .int .i64 o2, .int .i64 o3, .int .i64 o4, .int .i64 o5, .int .i64 o6, .int .i64 o7] 29
  have hb := (Below.refl w.heap.size w).alloc (Nat.le_refl _) (.cells #[.int .i64 o0, .int .i64 o1, .int .i64 o2, .int .i64 o3, .int .i64 o4, .int .i64 o5, .int .i64 o6, .int .i64 o7] 29)
  have hx := h.on hb
  have hTq : T < w.heap.size := h.lt.1
  rw [hK] at P0 ⊢
  clear hK h
  go_enter Tryz.func14, Tryz.ntmps14
  obtain ⟨c0, c1, c2, c3, c4, c5, c6, c7, -⟩ := ko.facts8
  obtain ⟨Qb, hQb⟩ : ∃ Qb, w.heap.size = Qb := ⟨_, rfl⟩
  go_wp2_with fail
  rw [hQb] at ko hb c0 c1 c2 c3 c4 c5 c6 c7
  obtain ⟨x, hxx⟩ : ∃ x, w.alloc (.cells #[.int .i64 o0, .int .i64 o1, .int .i64 o2, .int .i64 o3, .int .i64 o4, .int .i64 o5, .int .i64 o6, .int .i64 o7] 29) = x := ⟨_, rfl⟩
  rw [hxx] at ko hb hx c0 c1 c2 c3 c4 c5 c6 c7 ⊢
  clear hxx
  refine (P1 _).mono ?_
  rintro e _ ⟨i, hi, rfl, rfl⟩
  go_wp2_with fail
  refine (P2 _).mono ?_
  rintro e _ ⟨k, hk4, rfl, rfl⟩
  go_wp2_with fail
  refine (P3 _).mono ?_
  rintro e _ ⟨j, hj, rfl, rfl⟩
  go_wp2_with fail
  refine (P0 _).mono ?_
  rintro e _ ⟨rfl, rfl⟩
  clear P0 P1 P2 P3
  have hnx : n ≤ x.heap.size := Nat.le_trans hn hb.size
  have hBx : Below n w x := hb.mono (by omega)
  obtain ⟨KA, hKA, hKt, -, hWA⟩ := hx.goA hnx
  have MA := scanA hKA (N.os g)
  obtain ⟨cA, -⟩ := hx.cells
  clear c0 c1 c2 c3 c4 c5 c6 c7 ko hb b0 b1 b2 b3 b4 b5 b6 b7 P4
  go_wp2_with fail
  refine MA.mono ?_
  rintro e y1 ⟨⟨b, rfl, -⟩, hW⟩
  obtain ⟨hx2, hB2⟩ := hWA _ _ hW
  have hg' := N.scan g
  have hD : ∀ kd, ¬ kd < 9 → Did Gd m n T A B t kd w y1 := fun kd hkd => ⟨t.scan, hx2, N.more hg' (by omega), hBx.trans hB2, fun h => absurd h hkd⟩
  have hD := Lib.hid hD
  clear MA hW hWA hKA hx cA
  go_wp2
  go_ret
  exact ⟨rfl, hD.out _ (by decide)⟩

set_option maxRecDepth 100000 in
set_option maxHeartbeats 4000000 in
theorem does_12 (o0 : Int) (hK : pickOf o0 13 = 12)
    {Gd : Nat → St → Prop} {m n : Nat} {T A B : Nat} {t : St} {w : World} (N : Nice Gd) (hn : n ≤ w.heap.size) (h : TwinFrom n w T A B t) (g : Gd m t) (hm : m ≤ 500) (o1 o2 o3 o4 o5 o6 o7 : Int)
    (b0 : -9223372036854775808 ≤ o0 ∧ o0 ≤ 9223372036854775807) (b1 : -9223372036854775808 ≤ o1 ∧ o1 ≤ 9223372036854775807) (b2 : -9223372036854775808 ≤ o2 ∧ o2 ≤ 9223372036854775807) (b3 : -9223372036854775808 ≤ o3 ∧ o3 ≤ 9223372036854775807)
    (b4 : -9223372036854775808 ≤ o4 ∧ o4 ≤ 9223372036854775807) (b5 : -9223372036854775808 ≤ o5 ∧ o5 ≤ 9223372036854775807) (b6 : -9223372036854775808 ≤ o6 ∧ o6 ≤ 9223372036854775807) (b7 : -9223372036854775808 ≤ o7 ∧ o7 ≤ 9223372036854775807) :
    Calls Tryz.prog 14 #[.pointer (some ⟨T, 0, none⟩), .agg #[.int .i64 o0, .int .i64 o1, .int .i64 o2, .int .i64 o3, .int .i64 o4, .int .i64 o5, .int .i64 o6, .int .i64 o7]] w fun e w' => e = .returned (.bool true) ∧ Did Gd m n T A B t (pickOf o0 13) w w' := by
  have P1 := fun x => pick_nat o1 4 x b1.1 b1.2 (by omega) (by omega)
  have P2 := fun x => pick_nat o2 4 x b2.1 b2.2 (by omega) (by omega)
  have P3 := fun x => pick_nat o3 9 x b3.1 b3.2 (by omega) (by omega)
  have P0 := fun x => pick_any o0 13 x b0.1 b0.2 (by omega) (by omega)
  have P4 := fun x => pick_any o4 2 x b4.1 b4.2 (by omega) (by omega)
  have ko := BlkIs.new w #[.int .i64 o0, .int .i64 o1, .int .i64 o2, .int .i64 o3, .int .i64 o4, .int .i64 o5, .int .i64 o6, .int .i64 o7] 29
  have hb := (Below.refl w.heap.size w).alloc (Nat.le_refl _) (.cells #[.int .i64 o0, .int .i64 o1, .int .i64 o2, .int .i64 o3, .int .i64 o4, .int .i64 o5, .int .i64 o6, .int .i64 o7] 29)
  have hx := h.on hb
  have hTq : T < w.heap.size := h.lt.1
  rw [hK] at P0 ⊢
  clear hK h
  go_enter Tryz.func14, Tryz.ntmps14
  obtain ⟨c0, c1, c2, c3, c4, c5, c6, c7, -⟩ := ko.facts8
  obtain ⟨Qb, hQb⟩ : ∃ Qb, w.heap.size = Qb := ⟨_, rfl⟩
  go_wp2_with fail
  rw [hQb] at ko hb c0 c1 c2 c3 c4 c5 c6 c7
  obtain ⟨x, hxx⟩ : ∃ x, w.alloc (.cells #[.int .i64 o0, .int .i64 o1, .int .i64 o2, .int .i64 o3, .int .i64 o4, .int .i64 o5, .int .i64 o6, .int .i64 o7] 29) = x := ⟨_, rfl⟩
  rw [hxx] at ko hb hx c0 c1 c2 c3 c4 c5 c6 c7 ⊢
  clear hxx
  refine (P1 _).mono ?_
  rintro e _ ⟨i, hi, rfl, rfl⟩
  go_wp2_with fail
  refine (P2 _).mono ?_
  rintro e _ ⟨k, hk4, rfl, rfl⟩
  go_wp2_with fail
  refine (P3 _).mono ?_
  rintro e _ ⟨j, hj, rfl, rfl⟩
  go_wp2_with fail
  refine (P0 _).mono ?_
  rintro e _ ⟨rfl, rfl⟩
  clear P0 P1 P2 P3
  have hnx : n ≤ x.heap.size := Nat.le_trans hn hb.size
  have hBx : Below n w x := hb.mono (by omega)
  obtain ⟨KA, hKA, hKt, -, hWA⟩ := hx.goA hnx
  have MA := finalsA hKA (N.os g)
  have MD := dropA_all hKA (N.os g)
  obtain ⟨cA, -⟩ := hx.cells
  have p4 := pick_bounds o4 2 (by omega)
  go_wp2_with fail
  refine (P4 _).mono ?_
  rintro e y1 ⟨rfl, rfl⟩
  clear c0 c1 c2 c3 c4 c5 c6 c7 ko hb b0 b1 b2 b3 b4 b5 b6 b7 P4
  rcases (show pickOf o4 2 = 0 ∨ pickOf o4 2 = 1 by omega) with e4 | e4
  · rw [e4]
    clear e4 p4 MD
    go_wp2_with fail
    refine MA.mono ?_
    rintro e y1 ⟨lv, rfl, -, -, K', hK', hKK, -, hc⟩
    obtain ⟨hx2, hB2⟩ := hWA _ _ ⟨K', hK', hKK, hc⟩
    have hg' := N.fins g
    have hD : Did Gd m n T A B t 12 w y1 := ⟨t.fins, hx2, N.more hg' (by omega), hBx.trans hB2, fun h => absurd h (by decide)⟩
    have hD := Lib.hid hD
    clear MA hK' hKK hc hWA hKA hx cA
    go_wp2
    go_ret
    exact ⟨rfl, hD.out⟩
  · rw [e4]
    clear e4 p4 MA
    go_wp2_with fail
    refine MD.mono ?_
    rintro e y1 ⟨lv, b, rfl, -, -, hW⟩
    obtain ⟨hx2, hB2⟩ := hWA _ _ hW
    have hD : Did Gd m n T A B t 12 w y1 := ⟨t.drop, hx2, N.more (N.drop g) (by omega), hBx.trans hB2, fun h => absurd h (by decide)⟩
    have hD := Lib.hid hD
    clear MD hW hWA hKA hx cA
    go_wp2
    go_ret
    exact ⟨rfl, hD.out⟩

end Go.Proofs.YtbjmeibcphmgbaaGreat

namespace Go.Proofs.YtbjmeibcphmgbaaGreat
open Go.ChangeShapes Go.WideShapes Go.ChangeAt Go.RowKit

set_option linter.unusedSimpArgs false
set_option linter.unusedVariables false

def I64 (x : Int) : Prop := -9223372036854775808 ≤ x ∧ x ≤ 9223372036854775807
abbrev opV (o : Int → Int) : Value := .agg #[.int .i64 (o 0), .int .i64 (o 1), .int .i64 (o 2), .int .i64 (o 3), .int .i64 (o 4), .int .i64 (o 5), .int .i64 (o 6), .int .i64 (o 7)]
theorem does_yes {Gd : Nat → St → Prop} {m n : Nat} {T A B : Nat} {t : St} {w : World} (N : Nice Gd) (hn : n ≤ w.heap.size) (h : TwinFrom n w T A B t) (g : Gd m t) (hm : m ≤ 500) (o0 o1 o2 o3 o4 o5 o6 o7 : Int)
    (b0 : I64 o0) (b1 : I64 o1) (b2 : I64 o2) (b3 : I64 o3) (b4 : I64 o4) (b5 : I64 o5) (b6 : I64 o6) (b7 : I64 o7) :
    Calls Tryz.prog 14 #[.pointer (some ⟨T, 0, none⟩), .agg #[.int .i64 o0, .int .i64 o1, .int .i64 o2, .int .i64 o3, .int .i64 o4, .int .i64 o5, .int .i64 o6, .int .i64 o7]] w fun e w' => e = .returned (.bool true) ∧ Did Gd m n T A B t (pickOf o0 13) w w' := by
  have hk := pick_bounds o0 13 (by omega)
  rcases (show pickOf o0 13 = 0 ∨ pickOf o0 13 = 1 ∨ pickOf o0 13 = 2 ∨ pickOf o0 13 = 3 ∨ pickOf o0 13 = 4 ∨ pickOf o0 13 = 5 ∨ pickOf o0 13 = 6 ∨ pickOf o0 13 = 7 ∨ pickOf o0 13 = 8 ∨ pickOf o0 13 = 9 ∨ pickOf o0 13 = 10 ∨ pickOf o0 13 = 11 ∨ pickOf o0 13 = 12 by omega) with e | e | e | e | e | e | e | e | e | e | e | e | e
  · exact does_0 o0 e N hn h g hm o1 o2 o3 o4 o5 o6 o7 b0 b1 b2 b3 b4 b5 b6 b7
  · exact does_1 o0 e N hn h g hm o1 o2 o3 o4 o5 o6 o7 b0 b1 b2 b3 b4 b5 b6 b7
  · exact does_2 o0 e N hn h g hm o1 o2 o3 o4 o5 o6 o7 b0 b1 b2 b3 b4 b5 b6 b7
  · exact does_3 o0 e N hn h g hm o1 o2 o3 o4 o5 o6 o7 b0 b1 b2 b3 b4 b5 b6 b7
  · exact does_4 o0 e N hn h g hm o1 o2 o3 o4 o5 o6 o7 b0 b1 b2 b3 b4 b5 b6 b7
  · exact does_5 o0 e N hn h g hm o1 o2 o3 o4 o5 o6 o7 b0 b1 b2 b3 b4 b5 b6 b7
  · exact does_6 o0 e N hn h g hm o1 o2 o3 o4 o5 o6 o7 b0 b1 b2 b3 b4 b5 b6 b7
  · exact does_7 o0 e N hn h g hm o1 o2 o3 o4 o5 o6 o7 b0 b1 b2 b3 b4 b5 b6 b7
  · exact does_8 o0 e N hn h g hm o1 o2 o3 o4 o5 o6 o7 b0 b1 b2 b3 b4 b5 b6 b7
  · exact does_9 o0 e N hn h g hm o1 o2 o3 o4 o5 o6 o7 b0 b1 b2 b3 b4 b5 b6 b7
  · exact does_10 o0 e N hn h g hm o1 o2 o3 o4 o5 o6 o7 b0 b1 b2 b3 b4 b5 b6 b7
  · exact does_11 o0 e N hn h g hm o1 o2 o3 o4 o5 o6 o7 b0 b1 b2 b3 b4 b5 b6 b7
  · exact does_12 o0 e N hn h g hm o1 o2 o3 o4 o5 o6 o7 b0 b1 b2 b3 b4 b5 b6 b7

end Go.Proofs.YtbjmeibcphmgbaaGreat

namespace Go.Proofs.YtbjmeibcphmgbaaGreat
open Go.ChangeShapes Go.WideShapes Go.ChangeAt Go.RowKit

set_option linter.unusedSimpArgs false
set_option linter.unusedVariables false

section
variable {n : Nat} {x : World} {H : Nat} (hn : n ≤ x.heap.size)
include hn
theorem aw1 (h : HeapFrom n x H (Hp.new 16)) : Calls Tryz.prog 26 #[.pointer (some ⟨H, 0, none⟩), .agg #[.int .i64 1, .int .i64 0, .bool false, .bool false]] x fun e y => e = .returned (.tuple #[.int .i64 1, .int .i64 0]) ∧ HeapFrom n y H ex1 ∧ Below n x y := by
  obtain ⟨K, h1, h2⟩ := h
  exact (allocA h1 (Ok.newOk (by omega) (by omega)) 1 0 false false (by decide) (by omega) (by omega) ex1_is.2.2.2.2 (by decide)).mono fun e y ⟨a, b⟩ => ⟨a, HeapFrom.went b h2 hn⟩
theorem aw2 (h : HeapFrom n x H ex1) : Calls Tryz.prog 31 #[.pointer (some ⟨H, 0, none⟩), .int .i64 1] x fun e y => e = .returned (.tuple #[.int .i64 1, .int .i64 0]) ∧ HeapFrom n y H ex1 ∧ Below n x y := by
  obtain ⟨K, h1, h2⟩ := h
  have M := serialA h1 ex1_ok 1 (by rw [ex1_is.1]; simp)
  rw [ex1_is.2.2.1] at M
  exact M.mono fun e y ⟨a, b⟩ => ⟨a, ⟨K, h1.on b, h2⟩, b.mono hn⟩
theorem aw3 (h : HeapFrom n x H ex1) : Calls Tryz.prog 24 #[.pointer (some ⟨H, 0, none⟩)] x fun e y => e = .returned (.int .i64 12) ∧ HeapFrom n y H ex1 ∧ Below n x y := by
  obtain ⟨K, h1, h2⟩ := h
  have M := roomA h1 ex1_ok
  rw [ex1_is.2.1] at M
  exact M.mono fun e y ⟨a, b⟩ => ⟨a, ⟨K, h1.on b, h2⟩, b.mono hn⟩
theorem aw4 (h : HeapFrom n x H ex1) : Calls Tryz.prog 16 #[.pointer (some ⟨H, 0, none⟩)] x fun e y => e = .returned (.bool true) ∧ HeapFrom n y H ex2 ∧ Below n x y := by
  obtain ⟨K, h1, h2⟩ := h
  exact (flipA h1 ex1_ok ex1_is.2.2.2.1).mono fun e y ⟨a, b⟩ => ⟨a, HeapFrom.went b h2 hn⟩
theorem aw5 (h : HeapFrom n x H ex2) : Calls Tryz.prog 17 #[.pointer (some ⟨H, 0, none⟩), .int .i64 1] x fun e y => e = .returned (.int .i64 17) ∧ HeapFrom n y H ex3 ∧ Below n x y := by
  obtain ⟨K, h1, h2⟩ := h
  have M := movedH ex2_ok (p := 1) h1 (.inr (.inr (by rw [ex3_is.1]; simp)))
  rw [ex3_is.2.1] at M
  exact M.mono fun e y ⟨a, b⟩ => ⟨a, HeapFrom.went b h2 hn⟩
theorem aw6 (h : HeapFrom n x H ex3) : Calls Tryz.prog 18 #[.pointer (some ⟨H, 0, none⟩)] x fun e y => e = .returned (.bool true) ∧ HeapFrom n y H ex4 ∧ Below n x y := by
  obtain ⟨K, h1, h2⟩ := h
  exact (scanH_yes h1 ex3_ok ex3_is.2.2.2.1 (by rw [ex3_is.2.2.1, ex3_is.2.2.2.2]; simp)).mono fun e y ⟨a, b⟩ => ⟨a, HeapFrom.went b h2 hn⟩
theorem aw7 (h : HeapFrom n x H ex4) : Calls Tryz.prog 18 #[.pointer (some ⟨H, 0, none⟩)] x fun e y => e = .returned (.bool false) ∧ HeapFrom n y H ex4 ∧ Below n x y := by
  obtain ⟨K, h1, h2⟩ := h
  exact (scanH_end h1 ex4_ok.sound ex4_is.1 ex4_is.2.1).mono fun e y ⟨a, b⟩ => ⟨a, ⟨K, h1.on b, h2⟩, b.mono hn⟩
theorem aw8 (h : HeapFrom n x H ex4) : Calls Tryz.prog 20 #[.pointer (some ⟨H, 0, none⟩)] x fun e y => (∃ av c, e = .returned (.tuple #[.slice av 0 c, .bool true])) ∧ HeapFrom n y H ex5 ∧ Below n x y := by
  obtain ⟨K, h1, h2⟩ := h
  have M := dropA h1 ex4_ok ex4_is.1 ex4_is.2.1
  rw [ex4_is.2.2] at M
  refine M.mono fun e y ⟨lv, a, hr, b⟩ => ?_
  obtain ⟨av, c, e2, _⟩ := hr.slice
  exact ⟨⟨av, c, by rw [a, e2]; rfl⟩, HeapFrom.went b h2 hn⟩
theorem aw9 (h : HeapFrom n x H ex5) : Calls Tryz.prog 27 #[.pointer (some ⟨H, 0, none⟩), .int .i64 17] x fun e y => e = .returned (.bool true) ∧ HeapFrom n y H ex5 ∧ Below n x y := by
  obtain ⟨K, h1, h2⟩ := h
  have M := hereA h1 ex5_ok 17
  rw [ex5_is.1, show decide ((17 : Int) ∈ nums [17]) = true from by decide] at M
  exact M.mono fun e y ⟨a, b⟩ => ⟨a, ⟨K, h1.on b, h2⟩, b.mono hn⟩
theorem aw10 (h : HeapFrom n x H ex5) : Calls Tryz.prog 27 #[.pointer (some ⟨H, 0, none⟩), .int .i64 1] x fun e y => e = .returned (.bool false) ∧ HeapFrom n y H ex5 ∧ Below n x y := by
  obtain ⟨K, h1, h2⟩ := h
  have M := hereA h1 ex5_ok 1
  rw [ex5_is.1, show decide ((1 : Int) ∈ nums [17]) = false from by decide] at M
  exact M.mono fun e y ⟨a, b⟩ => ⟨a, ⟨K, h1.on b, h2⟩, b.mono hn⟩
theorem aw11 (h : HeapFrom n x H ex5) : Calls Tryz.prog 24 #[.pointer (some ⟨H, 0, none⟩)] x fun e y => e = .returned (.int .i64 12) ∧ HeapFrom n y H ex5 ∧ Below n x y := by
  obtain ⟨K, h1, h2⟩ := h
  have M := roomA h1 ex5_ok
  rw [ex5_is.2] at M
  exact M.mono fun e y ⟨a, b⟩ => ⟨a, ⟨K, h1.on b, h2⟩, b.mono hn⟩
end

set_option maxRecDepth 100000 in
set_option maxHeartbeats 4000000 in
theorem awake_yes (w : World) : Calls Tryz.prog 12 #[] w fun e w' => e = .returned (.bool true) ∧ Below w.heap.size w w' := by
  have N1 : Calls Tryz.prog 46 #[.int .i64 16] w fun e w' => ∃ H, e = .returned (.tuple #[.pointer (some ⟨H, 0, none⟩), .int .i64 0]) ∧ HeapFrom w.heap.size w' H (Hp.new 16) ∧ Below w.heap.size w w' :=
    (newH_yes 16 (by omega) (by omega) w).mono fun e w' ⟨H, a, b, c⟩ => ⟨H, a, ⟨_, b, fun k hk => hk.1⟩, c⟩
  have N2 := fun w => newH_small 15 (by omega) (by omega) w
  go_enter Tryz.func12, Tryz.ntmps12
  go_wp2_with fail
  refine N1.mono ?_
  rintro e x ⟨H, rfl, hH, hB⟩
  clear N1
  go_wp2_with fail
  refine (N2 _).mono ?_
  rintro e x1 ⟨rfl, hb⟩
  replace hH := hH.on hb
  replace hB := hB.trans (hb.mono hB.size)
  clear hb N2 x
  go_wp2_with fail
  refine (aw1 hB.size hH).mono ?_
  rintro e x2 ⟨rfl, hH2, hb⟩
  replace hB := hB.trans hb
  clear hb hH x1
  go_wp2_with fail
  refine (aw2 hB.size hH2).mono ?_
  rintro e x3 ⟨rfl, hH3, hb⟩
  replace hB := hB.trans hb
  clear hb hH2 x2
  go_wp2_with fail
  refine (aw3 hB.size hH3).mono ?_
  rintro e x4 ⟨rfl, hH4, hb⟩
  replace hB := hB.trans hb
  clear hb hH3 x3
  go_wp2_with fail
  refine (aw4 hB.size hH4).mono ?_
  rintro e x5 ⟨rfl, hH5, hb⟩
  replace hB := hB.trans hb
  clear hb hH4 x4
  go_wp2_with fail
  refine (aw5 hB.size hH5).mono ?_
  rintro e x6 ⟨rfl, hH6, hb⟩
  replace hB := hB.trans hb
  clear hb hH5 x5
  go_wp2_with fail
  refine (aw6 hB.size hH6).mono ?_
  rintro e x7 ⟨rfl, hH7, hb⟩
  replace hB := hB.trans hb
  clear hb hH6 x6
  go_wp2_with fail
  refine (aw7 hB.size hH7).mono ?_
  rintro e x8 ⟨rfl, hH8, hb⟩
  replace hB := hB.trans hb
  clear hb hH7 x7
  go_wp2_with fail
  refine (aw8 hB.size hH8).mono ?_
  rintro e x9 ⟨⟨av, c, rfl⟩, hH9, hb⟩
  replace hB := hB.trans hb
  clear hb hH8 x8
  go_wp2_with fail
  refine (aw9 hB.size hH9).mono ?_
  rintro e y1 ⟨rfl, hY1, hb⟩
  replace hB := hB.trans hb
  clear hb hH9 x9
  go_wp2_with fail
  refine (aw10 hB.size hY1).mono ?_
  rintro e y2 ⟨rfl, hY2, hb⟩
  replace hB := hB.trans hb
  clear hb hY1 y1
  go_wp2_with fail
  refine (aw11 hB.size hY2).mono ?_
  rintro e y3 ⟨rfl, hY3, hb⟩
  replace hB := hB.trans hb
  go_wp2
  go_ret
  exact ⟨rfl, hB⟩

end Go.Proofs.YtbjmeibcphmgbaaGreat

namespace Go.Proofs.YtbjmeibcphmgbaaGreat
open Go.ChangeShapes Go.WideShapes Go.ChangeAt Go.RowKit

/-- What a cell of a kind is: a number of that kind of integers; or a bool. -/
def CellOf : Option IntKind → Value → Prop
  | some k, v => ∃ z, v = .int k z ∧ (Lit.int k z).wf = true
  | none, v => ∃ b, v = .bool b

/-- The number in a cell; the bool in a cell. -/
def numOf : Value → Int | .int _ z => z | _ => 0
def boolOf : Value → Bool | .bool b => b | _ => false
theorem CellOf.int {k : IntKind} {v : Value} (h : CellOf (some k) v) : v = .int k (numOf v) ∧ (Lit.int k (numOf v)).wf = true := by
  obtain ⟨z, rfl, hz⟩ := h
  exact ⟨rfl, hz⟩
theorem CellOf.bool {v : Value} (h : CellOf none v) : v = .bool (boolOf v) := by
  obtain ⟨b, rfl⟩ := h
  rfl

/-- A type's cells, each by its kind, where all are integers and bools. -/
def flatFields (P : Program) (g : TypeId → Option (List (Option IntKind))) : List Field → Nat → Option (List (Option IntKind))
  | [], _ => some []
  | f :: r, o => match g f.type with
    | none => none
    | some ks => if f.offset = o ∧ P.cellsOf f.type = ks.length then (flatFields P g r (o + ks.length)).map (ks ++ ·) else none
def flat (P : Program) : Nat → TypeId → Option (List (Option IntKind))
  | 0, _ => none
  | n + 1, t => match P.underlying t with
    | some (.int k) => some [some k]
    | some .bool => some [none]
    | some (.struct fs) => match flatFields P (flat P n) fs.toList 0 with
      | some ks => if P.cellsOf t = ks.length then some ks else none
      | none => none
    | some (.array c e) => match flat P n e with
      | some ks => if P.cellsOf e = ks.length ∧ P.cellsOf t = c * ks.length then some (List.replicate c ks).flatten else none
      | none => none
    | _ => none

/-- These cells are of these kinds. -/
def AreOf (ks : List (Option IntKind)) (cs : List Value) : Prop := cs.length = ks.length ∧ ∀ (j : Nat) k v, ks[j]? = some k → cs[j]? = some v → CellOf k v
theorem AreOf.at_ {ks : List (Option IntKind)} {cs : List Value} (h : AreOf ks cs) {j : Nat} {k : Option IntKind} (hk : ks[j]? = some k) : ∃ v, cs[j]? = some v ∧ CellOf k v := by
  have hj : j < ks.length := (List.getElem?_eq_some_iff.1 hk).1
  have hv : cs[j]? = some (cs[j]'(by rw [h.1]; exact hj)) := List.getElem?_eq_getElem _
  exact ⟨_, hv, h.2 j k _ hk hv⟩
theorem AreOf.append {ks ls : List (Option IntKind)} {cs ds : List Value} (h : AreOf ks cs) (g : AreOf ls ds) : AreOf (ks ++ ls) (cs ++ ds) := by
  refine ⟨by simp [h.1, g.1], fun j k v hk hv => ?_⟩
  by_cases hj : j < ks.length
  · rw [List.getElem?_append_left hj] at hk
    rw [List.getElem?_append_left (by rw [h.1]; exact hj)] at hv
    exact h.2 j k v hk hv
  · rw [List.getElem?_append_right (by omega)] at hk
    rw [List.getElem?_append_right (by rw [h.1]; omega), h.1] at hv
    exact g.2 _ k v hk hv

section
variable {H : Type} {enc : TypeId × Value → H} {P : Program} {w : World} {base b0 : Nat} {spare : Nat → Bool} {held : Bool} {r : Reach}

theorem flatFields_ok {g : TypeId → Option (List (Option IntKind))} {n : Nat} {cs : List Value} (hg : ∀ t ks, g t = some ks → ∀ ds x, DataW.trod enc P w base spare held n t ds = some x → AreOf ks ds) :
    ∀ (fs : List Field) (o : Nat) (ks : List (Option IntKind)), flatFields P g fs o = some ks → (∀ f ∈ fs, ∃ x, DataW.trod enc P w base spare held n f.type ((cs.drop f.offset).take (P.cellsOf f.type)) = some x) → AreOf ks ((cs.drop o).take ks.length) := by
  intro fs
  induction fs with
  | nil =>
    intro o ks h _
    simp [flatFields] at h
    subst h
    exact ⟨by simp, fun j k v hk => by simp at hk⟩
  | cons f r ih =>
    intro o ks h hx
    unfold flatFields at h
    cases e : g f.type with
    | none => simp [e] at h
    | some k1 =>
      simp only [e] at h
      by_cases hc : f.offset = o ∧ P.cellsOf f.type = k1.length
      · rw [if_pos hc] at h
        obtain ⟨k2, h2, rfl⟩ := Option.map_eq_some_iff.1 h
        obtain ⟨x, hx1⟩ := hx f (by simp)
        rw [hc.1, hc.2] at hx1
        have a1 := hg _ _ e _ _ hx1
        have a2 := ih _ _ h2 fun f hf => hx f (by simp [hf])
        have := a1.append a2
        have hl := a1.1
        rw [List.length_take, List.length_drop] at hl
        have e3 : (cs.drop o).take (k1 ++ k2).length = (cs.drop o).take k1.length ++ (cs.drop (o + k1.length)).take k2.length := by
          rw [List.length_append, List.take_add, List.drop_drop]
        rw [e3]
        exact this
      · rw [if_neg hc] at h
        cases h

theorem flat_ok : ∀ (n : Nat) (t : TypeId) (ks : List (Option IntKind)), flat P n t = some ks → ∀ fuel cs x, DataW.trod enc P w base spare held fuel t cs = some x → AreOf ks cs := by
  intro n
  induction n with
  | zero => intro t ks h; simp [flat] at h
  | succ n ih =>
    intro t ks h fuel cs x hx
    unfold flat at h
    split at h
    · rename_i k ht
      injection h with h
      subst h
      obtain ⟨z, rfl, _, hw⟩ := DataW.trod_int ht hx
      refine ⟨rfl, fun j k' v hk hv => ?_⟩
      match j with
      | 0 => simp at hk hv; subst hk hv; exact ⟨z, rfl, hw⟩
      | j + 1 => simp at hk
    · rename_i ht
      injection h with h
      subst h
      obtain ⟨z, rfl, _⟩ := DataW.trod_bool ht hx
      refine ⟨rfl, fun j k' v hk hv => ?_⟩
      match j with
      | 0 => simp at hk hv; subst hk hv; exact ⟨z, rfl⟩
      | j + 1 => simp at hk
    · rename_i fs ht
      split at h
      · rename_i ks' hf
        by_cases hc : P.cellsOf t = ks'.length
        · rw [if_pos hc] at h
          injection h with h
          subst h
          obtain ⟨xs, m, _, _, hlen, hxl, hat⟩ := DataW.trod_struct ht hx
          have := flatFields_ok (cs := cs) (fun t ks ht ds x hx => ih t ks ht m ds x hx) fs.toList 0 ks' hf (fun f hm => by
            obtain ⟨i, hi, rfl⟩ := List.mem_iff_getElem.1 hm
            have hi' : i < fs.size := by simpa using hi
            have h1 := hat i fs.toList[i] (by simp [hi'])
            rw [List.getElem?_eq_getElem (by omega)] at h1
            exact ⟨_, h1⟩)
          rw [List.drop_zero, List.take_of_length_le (by rw [hlen, hc]; exact Nat.le_refl _)] at this
          exact this
        · rw [if_neg hc] at h; cases h
      · cases h
    · rename_i c e ht
      split at h
      · rename_i ks' hf
        by_cases hc : P.cellsOf e = ks'.length ∧ P.cellsOf t = c * ks'.length
        · rw [if_pos hc] at h
          injection h with h
          subst h
          obtain ⟨xs, m, _, _, hlen, hxl, hat⟩ := DataW.trod_array ht hx
          have key : ∀ i, i ≤ c → AreOf (List.replicate i ks').flatten (cs.take (i * ks'.length)) := by
            intro i
            induction i with
            | zero => intro _; exact ⟨by simp, fun j k v hk => by simp at hk⟩
            | succ i ihi =>
              intro hi
              have h1 := hat i (by omega)
              rw [List.getElem?_eq_getElem (by omega), hc.1] at h1
              have a2 := ih _ _ hf _ _ _ h1
              have := (ihi (by omega)).append a2
              rw [List.replicate_succ', List.flatten_append, show (i + 1) * ks'.length = i * ks'.length + ks'.length from by rw [Nat.add_mul, Nat.one_mul], List.take_add]
              simpa using this
          have := key c (Nat.le_refl _)
          rw [List.take_of_length_le (by rw [hlen, hc.2]; exact Nat.le_refl _)] at this
          exact this
        · rw [if_neg hc] at h; cases h
      · cases h
    · cases h


/-- A slice whose elements are C cells each: without room, or a row of 'cap' elements, of which the first 'len' are its own; cell j of element i holds 'V i j'. -/
def IsFlat (ks : List (Option IntKind)) (w : World) (a : Option Addr) (len cap : Nat) (V : Nat → Nat → Value) : Prop :=
  (len = 0 ∧ cap = 0) ∨
  ∃ b off, a = some ⟨b, off, none⟩ ∧ b < w.heap.size ∧ len ≤ cap ∧ cap ≤ maxLen ∧ ∀ i, i < cap → ∀ j k, ks[j]? = some k → w.cell? ⟨b, off + i * ks.length + j, none⟩ = some (V i j) ∧ CellOf k (V i j)
theorem IsFlat.below {ks : List (Option IntKind)} {w w' : World} {a : Option Addr} {len cap : Nat} {V : Nat → Nat → Value} (h : IsFlat ks w a len cap V) (hb : Below w.heap.size w w') : IsFlat ks w' a len cap V :=
  h.imp id fun ⟨b, off, e, hlt, h1, h2, hc⟩ => ⟨b, off, e, Nat.lt_of_lt_of_le hlt hb.size, h1, h2, fun i hi j k hk => ⟨(hb.cell (p := ⟨b, off + i * ks.length + j, none⟩) hlt).trans (hc i hi j k hk).1, (hc i hi j k hk).2⟩⟩

theorem open_flats {n : Nat} {t e : TypeId} {ks : List (Option IntKind)} {a : Option Addr} {len cap : Nat} {d : DataW H} {p : List MemPlace} (ht : P.underlying t = some (.slice e)) (hk : flat P n e = some ks) (hC : P.cellsOf e = ks.length) (hpos : 0 < ks.length)
    (h : DataW.Trod enc P w base (fun _ => true) held t (.slice a len cap) d p) : ∃ V, IsFlat ks w a len cap V := by
  obtain ⟨fuel, hf⟩ := h
  rcases Deep.open_slice ht hf with ⟨hcs, _⟩ | ⟨x, l, c, m, n', D, Pl, hcs, hb, hl, hm, hmm, _, hi⟩
  · simp [Value.cells] at hcs
    obtain ⟨rfl, rfl, rfl⟩ := hcs
    exact ⟨fun _ _ => undef, .inl ⟨rfl, rfl⟩⟩
  · simp [Value.cells] at hcs
    obtain ⟨rfl, rfl, rfl⟩ := hcs
    rw [if_pos rfl] at hmm
    subst hmm
    rw [hC] at hi
    have key : ∀ i, i < m → ∃ cs : List Value, AreOf ks cs ∧ ∀ j v, cs[j]? = some v → w.cell? (x.add (i * ks.length + j)) = some v := by
      intro i hlt
      obtain ⟨cs, h1, h2⟩ := hi i hlt
      have hA := flat_ok n e ks hk _ _ _ h2
      refine ⟨cs, hA, fun j v hv => ?_⟩
      obtain ⟨_, hlen, hat⟩ := World.cells?_some h1
      have hj : j < cs.length := (List.getElem?_eq_some_iff.1 hv).1
      have := hat j (by omega)
      rw [hv, Deep.add_add] at this
      exact this
    obtain ⟨F, hF⟩ := Deep.choose_lt key
    by_cases h0 : m = 0
    · subst h0
      exact ⟨fun _ _ => undef, .inl ⟨by omega, rfl⟩⟩
    · obtain ⟨b, off, spot⟩ := x
      have hA0 := (hF 0 (by omega)).1
      have hk0 : ks[0]? = some ks[0] := List.getElem?_eq_getElem hpos
      obtain ⟨v0, hv0, _⟩ := hA0.at_ hk0
      have hc0 := (hF 0 (by omega)).2 0 v0 hv0
      have hspot : spot = none := by simpa [Addr.add] using World.cell?_spot hc0
      subst hspot
      refine ⟨fun i j => (F i).getD j undef, .inr ⟨b, off, rfl, World.block_lt_of_cell? w ⟨b, off, none⟩ (by simpa [Addr.add] using hc0), hl, hm, fun i hlt j k hjk => ?_⟩⟩
      obtain ⟨v, hv, hkv⟩ := (hF i hlt).1.at_ hjk
      have hc := (hF i hlt).2 j v hv
      have e : (F i).getD j undef = v := by rw [List.getD_eq_getElem?_getD, hv]; rfl
      show _ = some ((F i).getD j undef) ∧ CellOf k ((F i).getD j undef)
      rw [e]
      refine ⟨?_, hkv⟩
      have e2 : (⟨b, off, none⟩ : Addr).add (i * ks.length + j) = ⟨b, off + i * ks.length + j, none⟩ := by
        unfold Addr.add; split <;> simp_all [Nat.add_assoc]
      rw [← e2]; exact hc
end

end Go.Proofs.YtbjmeibcphmgbaaGreat

namespace Go.Proofs.YtbjmeibcphmgbaaGreat
open Go.ChangeShapes Go.WideShapes Go.ChangeAt Go.RowKit

set_option linter.unusedSimpArgs false
set_option linter.unusedVariables false

def opKs : List (Option IntKind) := [some .i64, some .i64, some .i64, some .i64, some .i64, some .i64, some .i64, some .i64]
/-- An op's eight numbers, at its place in the list. -/
structure OpIn (w : World) (b o : Nat) (o0 o1 o2 o3 o4 o5 o6 o7 : Int) : Prop where
  c : w.cell? ⟨b, o, none⟩ = some (.int .i64 o0) ∧ w.cell? ⟨b, o + 1, none⟩ = some (.int .i64 o1) ∧ w.cell? ⟨b, o + 2, none⟩ = some (.int .i64 o2) ∧ w.cell? ⟨b, o + 3, none⟩ = some (.int .i64 o3) ∧ w.cell? ⟨b, o + 4, none⟩ = some (.int .i64 o4) ∧ w.cell? ⟨b, o + 5, none⟩ = some (.int .i64 o5) ∧ w.cell? ⟨b, o + 6, none⟩ = some (.int .i64 o6) ∧ w.cell? ⟨b, o + 7, none⟩ = some (.int .i64 o7)
  b0 : I64 o0
  b1 : I64 o1
  b2 : I64 o2
  b3 : I64 o3
  b4 : I64 o4
  b5 : I64 o5
  b6 : I64 o6
  b7 : I64 o7
theorem op_at {w : World} {a : Option Addr} {len cap : Nat} {V : Nat → Nat → Value} (h : IsFlat opKs w a len cap V) {i : Nat} (hi : i < len) :
    ∃ b off, ∃ o0 o1 o2 o3 o4 o5 o6 o7 : Int, a = some ⟨b, off, none⟩ ∧ b < w.heap.size ∧ OpIn w b (off + i * 8) o0 o1 o2 o3 o4 o5 o6 o7 := by
  rcases h with ⟨h0, _⟩ | ⟨b, off, e, hlt, h1, h2, hc⟩
  · omega
  · have hi' : i < len := hi
    have key : ∀ j, j < 8 → ∃ x : Int, w.cell? ⟨b, off + i * 8 + j, none⟩ = some (.int .i64 x) ∧ I64 x := fun j hj => by
      have hk : opKs[j]? = some (some .i64) := by
        match j, hj with
        | 0, _ => rfl
        | 1, _ => rfl
        | 2, _ => rfl
        | 3, _ => rfl
        | 4, _ => rfl
        | 5, _ => rfl
        | 6, _ => rfl
        | 7, _ => rfl
      obtain ⟨c0, k0⟩ := hc i (by omega) j (some .i64) hk
      obtain ⟨e0, f0⟩ := k0.int
      rw [e0] at c0
      exact ⟨_, c0, bounds_i64 f0⟩
    obtain ⟨o0, c0, b0⟩ := key 0 (by omega)
    obtain ⟨o1, c1, b1⟩ := key 1 (by omega)
    obtain ⟨o2, c2, b2⟩ := key 2 (by omega)
    obtain ⟨o3, c3, b3⟩ := key 3 (by omega)
    obtain ⟨o4, c4, b4⟩ := key 4 (by omega)
    obtain ⟨o5, c5, b5⟩ := key 5 (by omega)
    obtain ⟨o6, c6, b6⟩ := key 6 (by omega)
    obtain ⟨o7, c7, b7⟩ := key 7 (by omega)
    exact ⟨b, off, o0, o1, o2, o3, o4, o5, o6, o7, e, hlt, ⟨⟨c0, c1, c2, c3, c4, c5, c6, c7⟩, b0, b1, b2, b3, b4, b5, b6, b7⟩⟩
theorem OpIn.on {w x : World} {n b o : Nat} {o0 o1 o2 o3 o4 o5 o6 o7 : Int} (h : OpIn w b o o0 o1 o2 o3 o4 o5 o6 o7) (hb : Below n w x) (hl : b < n) : OpIn x b o o0 o1 o2 o3 o4 o5 o6 o7 := by
  obtain ⟨⟨c0, c1, c2, c3, c4, c5, c6, c7⟩, r0, r1, r2, r3, r4, r5, r6, r7⟩ := h
  have e := fun j => hb.cell (p := ⟨b, j, none⟩) hl
  exact ⟨⟨(e _).trans c0, (e _).trans c1, (e _).trans c2, (e _).trans c3, (e _).trans c4, (e _).trans c5, (e _).trans c6, (e _).trans c7⟩, r0, r1, r2, r3, r4, r5, r6, r7⟩
theorem flat_len {ks : List (Option IntKind)} {w : World} {a : Option Addr} {len cap : Nat} {V : Nat → Nat → Value} (h0 : IsFlat ks w a len cap V) : len ≤ 9223372036854775807 := by
  rcases h0 with ⟨e, _⟩ | ⟨b, off, e, hlt, e1, e2, hc⟩
  · omega
  · unfold maxLen at e2; omega

section
variable {n : Nat} {T A B : Nat} {t : St} {w : World} (hn : n ≤ w.heap.size) (h : TwinFrom n w T A B t)
include hn h
/-- A call that only reads the first heap. -/
theorem readT {k : FuncId} {args : Array Value} {r : Ending} (C : ∀ K, HeapAt w K A t.s → Calls Tryz.prog k args w fun e w' => e = r ∧ Below w.heap.size w w') : Calls Tryz.prog k args w fun e w' => e = r ∧ TwinFrom n w' T A B t ∧ Below n w w' ∧ Below w.heap.size w w' := by
  obtain ⟨K, hK, -⟩ := h.goA hn
  exact (C K hK).mono fun e x ⟨q1, q2⟩ => ⟨q1, h.on q2, q2.mono hn, q2⟩
theorem roomT (g : Ok t.s) : Calls Tryz.prog 24 #[.pointer (some ⟨A, 0, none⟩)] w fun e w' => e = .returned (.int .i64 t.s.room) ∧ TwinFrom n w' T A B t ∧ Below n w w' := by
  obtain ⟨K, hK, -⟩ := h.goA hn
  exact (roomA hK g).mono fun e x ⟨q1, q2⟩ => ⟨q1, h.on q2, q2.mono hn⟩
theorem movingT : Calls Tryz.prog 21 #[.pointer (some ⟨A, 0, none⟩)] w fun e w' => e = .returned (.bool t.s.mv) ∧ TwinFrom n w' T A B t ∧ Below n w w' := by
  obtain ⟨K, hK, -⟩ := h.goA hn
  obtain ⟨P, b, v0, v1, v2, v3, hi, hF⟩ := hK
  exact (moving_any hi).mono fun e x ⟨q1, q2⟩ => ⟨q1, h.on q2, q2.mono hn⟩
theorem finsStillT (hm : t.s.mv = false) : Calls Tryz.prog 19 #[.pointer (some ⟨A, 0, none⟩)] w fun e w' => e = .returned (.slice none 0 0) ∧ TwinFrom n w' T A B t ∧ Below n w w' := by
  obtain ⟨K, hK, -⟩ := h.goA hn
  exact (finalsH_still hK hm).mono fun e x ⟨q1, q2⟩ => ⟨q1, h.on q2, q2.mono hn⟩
theorem scanStillT (hm : t.s.mv = false) : Calls Tryz.prog 18 #[.pointer (some ⟨A, 0, none⟩)] w fun e w' => e = .returned (.bool false) ∧ TwinFrom n w' T A B t ∧ Below n w w' := by
  obtain ⟨K, hK, -⟩ := h.goA hn
  exact (scanH_still hK hm).mono fun e x ⟨q1, q2⟩ => ⟨q1, h.on q2, q2.mono hn⟩
end

theorem alikeT {z m n : Nat} {T A B : Nat} {t : St} {w : World} (hn : n ≤ w.heap.size) (h : TwinFrom n w T A B t) (g : Ali true z m t) :
    Calls Tryz.prog 15 #[.pointer (some ⟨T, 0, none⟩)] w fun e w' => e = .returned (.bool true) ∧ TwinFrom n w' T A B t ∧ Below n w w' := by
  obtain ⟨f, g⟩ := g
  obtain ⟨KA, KB, h1, h2⟩ := h
  exact (alike_yes h1 g.tw g.os.toOkw g.or.toOkw g.mv g.ri g.sl).mono fun e x ⟨e1, e2⟩ => ⟨e1, ⟨KA, KB, h1.on e2, h2⟩, e2.mono hn⟩

theorem pick9 (c : Int) : pickOf (pickOf c 9) 13 < 9 := by
  have h := pick_bounds c 9 (by omega)
  generalize pickOf c 9 = x at *
  unfold pickOf
  rw [if_neg (by omega), Int.emod_eq_of_lt h.1 (by omega)]
  exact h.2

end Go.Proofs.YtbjmeibcphmgbaaGreat
