/- What the laws of layer 8 have in common: two lists compared, an object's words, their look at the chapter's example. No condition but that lists are there to be read. -/
import Derived.Test.YtceedbkacbaaiaaMoverWalk
import Derived.Test.YtceedbkacbaaiaaHeadFit
import Derived.Test.YtceedbkacbaaiaaPick8
import Derived.Test.YtceedbkacbaaiaaOpen
namespace Go.Proofs.Ytceedbkacbaaiaa
open Go.ChangeShapes Go.WideShapes Go.ChangeAt Go.RowKit

set_option linter.unusedSimpArgs false
set_option linter.unusedVariables false

/-- A slice that is read as these numbers. -/
def ReadsAs (k : IntKind) (w : World) (v : Value) (xs : List Int) : Prop :=
  xs.length ≤ maxLen ∧ ((xs = [] ∧ ∃ c, v = .slice none 0 c) ∨ ∃ g c, v = .slice (some ⟨g, 0, none⟩) xs.length c ∧ xs.length ≤ c ∧ g < w.heap.size ∧ ∀ j, j < xs.length → w.cell? ⟨g, j, none⟩ = some (.int k (xs.getD j 0)))
theorem ReadsAs.below {k : IntKind} {w x : World} {v : Value} {xs : List Int} (h : ReadsAs k w v xs) (hb : Below w.heap.size w x) : ReadsAs k x v xs :=
  ⟨h.1, h.2.imp id fun ⟨g, c, e, hc, hg, r⟩ => ⟨g, c, e, hc, Nat.lt_of_lt_of_le hg hb.size, fun j hj => (hb.cell (p := ⟨g, j, none⟩) hg).trans (r j hj)⟩⟩
theorem ReadsAs.drew {k : IntKind} {w : World} {v : Value} {xs : List Int} (h : ReadsAs k w v xs) : ReadsAs k w.drew v xs := h
theorem readsAs_of_owns {w : World} {base n : Nat} {e : TypeId} {v : Value} {k : IntKind} {l : List Int} (h : w.ownsRow base e 1 v n (l.map (Value.int k))) : ReadsAs k w v l := by
  have hl : l.length = n := by simpa using h.1
  by_cases hn : 0 < n
  · obtain ⟨g, cap, rfl, _, hg, hc, hm, _, r⟩ := own_cell h hn
    exact ⟨by omega, .inr ⟨g, cap, by rw [hl], by omega, hg, fun j hj => r j (by omega)⟩⟩
  · obtain rfl : n = 0 := by omega
    have h0 : l = [] := List.eq_nil_of_length_eq_zero hl
    subst h0
    rcases h.2 with ⟨rfl, _⟩ | ⟨g, cap, cur, rfl, _, hh, hc, hm, _⟩
    · exact ⟨by simp, .inl ⟨rfl, 0, rfl⟩⟩
    · exact ⟨by simp, .inr ⟨g, cap, rfl, by simp, lt_of_block hh, fun j hj => by simp at hj⟩⟩
theorem valsN_eq (l : List Nat) : valsN l = (l.map fun x : Nat => (x : Int)).map (Value.int .i64) := by unfold valsN; simp

set_option maxRecDepth 100000 in
theorem ints_nil (a a' : Option Addr) (c c' : Nat) (w : World) :
    Calls Try.prog 23 #[.slice a 0 c, .slice a' 0 c'] w fun e w' => e = .returned (.bool true) ∧ Below w.heap.size w w' := by
  go_enter Try.func23, Try.ntmps23
  go_wp2
  go_loopw [5] (fun i wr => i = .int .i64 0 ∧ Below w.heap.size w wr) (fun i _ => 0)
  case atStart => exact ⟨rfl, Below.refl _ _⟩
  case round =>
    obtain ⟨rfl, hB⟩ := hrel
    go_wp2
    go_ret
    exact ⟨rfl, hB⟩

set_option maxRecDepth 100000 in
set_option maxHeartbeats 1000000 in
theorem ints_same (v u : Value) (xs : List Int) (w : World) (hv : ReadsAs .i64 w v xs) (hu : ReadsAs .i64 w u xs) :
    Calls Try.prog 23 #[v, u] w fun e w' => e = .returned (.bool true) ∧ Below w.heap.size w w' := by
  obtain ⟨hm, hv⟩ := hv
  obtain ⟨_, hu⟩ := hu
  by_cases h0 : xs = []
  · subst h0
    obtain ⟨a, c, rfl⟩ : ∃ a c, v = .slice a 0 c := by
      rcases hv with ⟨_, c, rfl⟩ | ⟨g, c, rfl, _⟩
      · exact ⟨_, _, rfl⟩
      · exact ⟨_, _, rfl⟩
    obtain ⟨a', c', rfl⟩ : ∃ a c, u = .slice a 0 c := by
      rcases hu with ⟨_, c, rfl⟩ | ⟨g, c, rfl, _⟩
      · exact ⟨_, _, rfl⟩
      · exact ⟨_, _, rfl⟩
    exact ints_nil a a' c c' w
  · rcases hv with ⟨h, _⟩ | ⟨g, c, rfl, hc, hg, hr⟩
    · exact absurd h h0
    · rcases hu with ⟨h, _⟩ | ⟨g', c', rfl, hc', hg', hr'⟩
      · exact absurd h h0
      · unfold maxLen at hm
        have HR := Lib.hid hr
        have HR' := Lib.hid hr'
        obtain ⟨n, hn⟩ : ∃ n, xs.length = n := ⟨_, rfl⟩
        have Hn := Lib.hid hn
        rw [hn] at hm hc hc' ⊢
        clear hr hr' hn h0
        go_enter Try.func23, Try.ntmps23
        go_wp2
        go_loopw [5] (fun i wr => ∃ k : Nat, k ≤ n ∧ i = .int .i64 k ∧ Below w.heap.size w wr) (fun i _ => n - (intOf i).toNat)
        case atStart => exact ⟨0, by omega, rfl, Below.refl _ _⟩
        case round =>
          obtain ⟨k, hk, rfl, hB⟩ := hrel
          by_cases hlt : k < n
          · have a1 := (hB.cell (p := ⟨g, k, none⟩) hg).trans (HR.out k (by rw [Hn.out]; exact hlt))
            have a2 := (hB.cell (p := ⟨g', k, none⟩) hg').trans (HR'.out k (by rw [Hn.out]; exact hlt))
            generalize xs.getD k 0 = x at *
            have b0 : (0 : Int) ≤ (k : Int) := by omega
            have b1 : (k : Int) < (n : Int) := by omega
            go_wp2
            go_quiet (fail)
            go_wp2
            go_roundw
            case rel => exact ⟨k + 1, by omega, by go_num, drewN_below hB _⟩
            case measure => simp [intOf]; omega
          · go_wp2
            go_ret
            exact ⟨rfl, hB⟩

/-- An object's words, but the first one. -/
def wordsL (l : List Int) (a k : Nat) : List Int := (List.range k).map fun j => l.getD (a + 1 + j) 0
theorem wordsL_length (l : List Int) (a k : Nat) : (wordsL l a k).length = k := by unfold wordsL; simp
theorem wordsL_snoc (l : List Int) (a k : Nat) : (wordsL l a k).map (Value.int .u64) ++ [.int .u64 (l.getD (a + 1 + k) 0)] = (wordsL l a (k + 1)).map (Value.int .u64) := by unfold wordsL; rw [List.range_succ]; simp
theorem wordsL_at {l : List Int} {a k j : Nat} (h : j < k) : (wordsL l a k).getD j 0 = l.getD (a + 1 + j) 0 := by unfold wordsL; simp [List.getD, h]

theorem infoU64 : (Try.prog.info? 83).map (fun i => (i.zero, i.size, i.bytes)) = some (some (.int .u64 0), 1, 8) := by kernel_rfl


def exOb : Nat → Ob := fun _ => ⟨1, 1, false, false, false⟩
def exA : List Int := madeL (List.replicate 60 0) 1 1 1 false false 3
def exB : List Int := copyL exA 1 20 5
set_option maxRecDepth 100000 in
theorem exA_obj : ObjIs exA 1 1 1 false false false := ⟨by decide, by decide, by decide, by decide, by decide⟩
set_option maxRecDepth 100000 in
theorem exB_obj : ObjIs exB 20 1 1 false false false := ⟨by decide, by decide, by decide, by decide, by decide⟩
theorem exB_obs : ObsAt exB 20 exOb 1 := fun k hk => by obtain rfl : k = 0 := by omega
                                                        exact exB_obj
set_option maxRecDepth 100000 in
theorem exB_tells : exB.length = 60 ∧ exB.getD 1 0 = 82 ∧ exB.getD 22 0 = 3 := by decide


end Go.Proofs.Ytceedbkacbaaiaa
