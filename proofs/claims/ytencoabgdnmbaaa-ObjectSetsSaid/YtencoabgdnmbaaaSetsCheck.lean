/- The law ObjectSets: its look at both objects. No condition. -/
import Derived.Test.YtencoabgdnmbaaaSetsRound
import Derived.Deep.CutRange
import Derived.Deep.CutBlock
namespace Go.Proofs.Ytencoabgdnmbaaa.objectSets
open Go.ChangeShapes Go.WideShapes Go.ChangeAt Go.RowKit
set_option linter.unusedVariables false
set_option linter.unusedSimpArgs false

set_option maxRecDepth 100000 in
set_option maxHeartbeats 4000000 in
theorem check_any {P b g9 g10 g12 g13 g14 A : Nat} {pp dd : Nat → Nat} {ww ff : Nat → Bool} {L ps ns : List Int} {fs : List Bool} {w x : World} (T : Two A pp dd ww ff L ps ns fs) (I : InvL P b g9 g10 g12 g13 g14 pp dd ww ff L ps ns fs w x)
    {Q : Exit → Act → World → Prop} (s0 s1 s2 s3 s4 s5 s6 s7 s15 s16 s17 s18 s19 s20 s21 s23 s24 s25 s26 s27 s28 s29 s30 s31 s32 s33 s34 s35 s36 s37 s38 s39 s40 s41 s42 s43 s44 s45 s46 s47 s48 s49 s50 s51 s52 s53 s54 s55 s56 s57 s58 s59 s60 s61 s62 s63 s64 s65 s66 s67 s68 s69 s70 s71 s72 s73 s74 s75 s76 s77 s78 s79 s80 s81 s82 s83 s84 s85 s86 s87 s88 s89 s90 s91 s92 s93 s94 s95 s96 s97 s98 s99 s100 s101 s102 s103 s104 s105 s106 s107 s108 s109 s110 s111 s112 s113 s114 s115 s116 s117 s118 s119 s120 s121 s122 s123 s124 s125 s126 s127 s128 s129 s130 s131 s132 s133 s134 s135 s136 s137 s138 s139 s140 s141 s142 s143 s144 s145 s146 s147 s148 s149 s150 s151 s152 s153 s154 s155 s156 s157 s158 s159 s160 s161 s162 s163 s164 s165 s166 s167 s168 s169 s170 s171 s172 s173 s174 s175 s176 s177 s178 s179 s180 s181 s182 s183 s184 s185 s186 s187 s188 s189 s190 s191 s192 s193 s194 s195 s196 s197 s198 s199 s200 s201 s202 s203 s204 s205 s206 s207 s208 s209 s210 s211 s212 s213 s214 s215 s216 s217 s218 s219 s220 s221 s222 s223 s224 s225 s226 s227 s228 s229 s230 s231 s232 s233 s234 s235 s236 s237 s238 s239 s240 s241 s242 s243 s244 s245 s246 s247 s248 s249 s250 s251 s252 s253 s254 s255 s256 s257 s258 s259 s260 : Value)
    (hK : ∀ (s6 s22 s23 s24 s25 s26 s27 s28 s29 s30 s31 s32 s33 s142 s143 s144 s145 s146 s147 s148 s149 s150 s151 s152 s153 s154 s155 s156 s157 s158 s159 s160 s161 s162 s163 s164 s165 s166 s167 s168 s169 s170 s171 s172 s173 s174 s175 s176 s177 s178 s179 s180 s181 s182 s183 s184 s185 s186 s187 s188 s189 s190 s191 s192 s193 s194 s195 s196 s197 s198 s199 s200 s201 s202 s203 s204 s205 s206 s207 s208 s209 s210 s211 s212 s213 s214 s215 s216 s217 s218 s219 s220 s221 s222 s223 s224 s225 s226 s227 s228 s229 s230 s231 s232 s233 s234 s235 s236 s237 s238 s239 s240 s241 s242 s243 s244 s245 s246 s247 s248 s249 s250 s251 s252 s253 s254 s255 s256 s257 s258 s259 s260 : Value) (y : World), InvL P b g9 g10 g12 g13 g14 pp dd ww ff L ps ns fs w y → Q .normal { tmps := #[s0, s1, s2, s3, s4, s5, s6, s7, .pointer (some ⟨P, 0, none⟩), .pointer (some ⟨g9, 0, none⟩), .pointer (some ⟨g10, 0, none⟩), .int .i64 A, .pointer (some ⟨g12, 0, none⟩), .pointer (some ⟨g13, 0, none⟩), .pointer (some ⟨g14, 0, none⟩), s15, s16, s17, s18, s19, s20, s21, s22, s23, s24, s25, s26, s27, s28, s29, s30, s31, s32, s33, s34, s35, s36, s37, s38, s39, s40, s41, s42, s43, s44, s45, s46, s47, s48, s49, s50, s51, s52, s53, s54, s55, s56, s57, s58, s59, s60, s61, s62, s63, s64, s65, s66, s67, s68, s69, s70, s71, s72, s73, s74, s75, s76, s77, s78, s79, s80, s81, s82, s83, s84, s85, s86, s87, s88, s89, s90, s91, s92, s93, s94, s95, s96, s97, s98, s99, s100, s101, s102, s103, s104, s105, s106, s107, s108, s109, s110, s111, s112, s113, s114, s115, s116, s117, s118, s119, s120, s121, s122, s123, s124, s125, s126, s127, s128, s129, s130, s131, s132, s133, s134, s135, s136, s137, s138, s139, s140, s141, s142, s143, s144, s145, s146, s147, s148, s149, s150, s151, s152, s153, s154, s155, s156, s157, s158, s159, s160, s161, s162, s163, s164, s165, s166, s167, s168, s169, s170, s171, s172, s173, s174, s175, s176, s177, s178, s179, s180, s181, s182, s183, s184, s185, s186, s187, s188, s189, s190, s191, s192, s193, s194, s195, s196, s197, s198, s199, s200, s201, s202, s203, s204, s205, s206, s207, s208, s209, s210, s211, s212, s213, s214, s215, s216, s217, s218, s219, s220, s221, s222, s223, s224, s225, s226, s227, s228, s229, s230, s231, s232, s233, s234, s235, s236, s237, s238, s239, s240, s241, s242, s243, s244, s245, s246, s247, s248, s249, s250, s251, s252, s253, s254, s255, s256, s257, s258, s259, s260], defers := [] } y) :
    Code.wp Try.prog (cr (cr (cr (cr (cr (cr (cr (cr (cb (cl (cr (cb (cb (cr (cl (cr (cr (cr (cr (cr (cr (cr (Try.f3.body.getD .skip))))))))))))))))))))))) Q { tmps := #[s0, s1, s2, s3, s4, s5, s6, s7, .pointer (some ⟨P, 0, none⟩), .pointer (some ⟨g9, 0, none⟩), .pointer (some ⟨g10, 0, none⟩), .int .i64 A, .pointer (some ⟨g12, 0, none⟩), .pointer (some ⟨g13, 0, none⟩), .pointer (some ⟨g14, 0, none⟩), s15, s16, s17, s18, s19, s20, s21, .int .i64 0, s23, s24, s25, s26, s27, s28, s29, s30, s31, s32, s33, s34, s35, s36, s37, s38, s39, s40, s41, s42, s43, s44, s45, s46, s47, s48, s49, s50, s51, s52, s53, s54, s55, s56, s57, s58, s59, s60, s61, s62, s63, s64, s65, s66, s67, s68, s69, s70, s71, s72, s73, s74, s75, s76, s77, s78, s79, s80, s81, s82, s83, s84, s85, s86, s87, s88, s89, s90, s91, s92, s93, s94, s95, s96, s97, s98, s99, s100, s101, s102, s103, s104, s105, s106, s107, s108, s109, s110, s111, s112, s113, s114, s115, s116, s117, s118, s119, s120, s121, s122, s123, s124, s125, s126, s127, s128, s129, s130, s131, s132, s133, s134, s135, s136, s137, s138, s139, s140, s141, s142, s143, s144, s145, s146, s147, s148, s149, s150, s151, s152, s153, s154, s155, s156, s157, s158, s159, s160, s161, s162, s163, s164, s165, s166, s167, s168, s169, s170, s171, s172, s173, s174, s175, s176, s177, s178, s179, s180, s181, s182, s183, s184, s185, s186, s187, s188, s189, s190, s191, s192, s193, s194, s195, s196, s197, s198, s199, s200, s201, s202, s203, s204, s205, s206, s207, s208, s209, s210, s211, s212, s213, s214, s215, s216, s217, s218, s219, s220, s221, s222, s223, s224, s225, s226, s227, s228, s229, s230, s231, s232, s233, s234, s235, s236, s237, s238, s239, s240, s241, s242, s243, s244, s245, s246, s247, s248, s249, s250, s251, s252, s253, s254, s255, s256, s257, s258, s259, s260], defers := [] } x := by
  have iA : IntKind.i64.wrap (A : Int) = (A : Int) := IntWalk.i64_in _ (by have := T.at_; have := (T.small (k := 0) (by omega)); omega)
  have aA : A ≤ 19 := by have := T.at_; have := (T.small (k := 0) (by omega)); omega
  dsimp only [cl, cr, cb, Try.f3, Option.getD]
  go_wp2
  go_loopw [22] (fun i wr => ∃ jj : Int, (jj = 0 ∨ jj = 1 ∨ jj = 2) ∧ i = .int .i64 jj ∧ InvL P b g9 g10 g12 g13 g14 pp dd ww ff L ps ns fs w wr) (fun i _ => 2 - (intOf i).toNat)
  case atStart => exact ⟨0, by simp, rfl, I⟩
  case round =>
    clear I
    obtain ⟨jj, hjj, rfl, I⟩ := hrel
    rcases hjj with rfl | rfl | rfl
    · skip
      have O := T.obj 0 (by omega)
      have Ser := T.ser 0 (by omega)
      have iC : IntKind.i64.wrap (((0 : Nat) : Int) * (A : Int)) = ((0 : Nat) : Int) := by rw [show (((0 : Nat) : Int) * (A : Int)) = ((0 : Nat) : Int) from by omega]; exact IntWalk.i64_in _ (by omega)
      rw [Nat.zero_mul] at O Ser
      obtain ⟨⟨c0, c1, c2, c3⟩, f0, f1, f2, f3, l1⟩ := I.s.facts4
      obtain ⟨⟨d0, d1, d2, d3⟩, _, _, _, _, l2⟩ := I.t.facts4
      have iC' := Lib.hid iC
      clear iC
      go_wp2_with fail
      have ho := ((Below.refl wr.heap.size wr).alloc (Nat.le_refl _) (.cells #[.int .i64 (pp 0), .int .i64 (dd 0), .bool (ww 0), .bool (ff 0), .int .i64 (pp 1), .int .i64 (dd 1), .bool (ww 1), .bool (ff 1)] 27)).alloc (by simp) (.cells (shA (pp 0) (dd 0) (ww 0) (ff 0)) 27)
      have h23 := BlkIs.new (wr.alloc (.cells #[.int .i64 (pp 0), .int .i64 (dd 0), .bool (ww 0), .bool (ff 0), .int .i64 (pp 1), .int .i64 (dd 1), .bool (ww 1), .bool (ff 1)] 27)) (shA (pp 0) (dd 0) (ww 0) (ff 0)) 27
      rw [show (wr.alloc (.cells #[.int .i64 (pp 0), .int .i64 (dd 0), .bool (ww 0), .bool (ff 0), .int .i64 (pp 1), .int .i64 (dd 1), .bool (ww 1), .bool (ff 1)] 27)).heap.size = wr.heap.size + 1 from by simp] at h23
      replace I := I.on ho
      have M1 := shape_at 0 _ I.ar O
      clear c0 c1 c2 c3 f0 f1 f2 f3 l1 d0 d1 d2 d3 l2
      obtain ⟨g23, eg⟩ : ∃ k, wr.heap.size + 1 = k := ⟨_, rfl⟩
      rw [eg] at h23 ⊢
      clear eg ho
      refine M1.mono ?_
      rintro e x6 ⟨rfl, hb⟩
      replace I := I.on hb
      replace h23 := h23.on hb
      have k23 := h23.lt
      clear M1 hb
      go_wp2_with fail
      have ho := (Below.refl x6.heap.size x6).alloc (Nat.le_refl _) (.cells (shA (pp 0) (dd 0) (ww 0) (ff 0)) 27)
      have h24 := BlkIs.new x6 (shA (pp 0) (dd 0) (ww 0) (ff 0)) 27
      replace I := I.on ho
      replace h23 := h23.on ho
      have M1 := serial_at 0 _ I.ar O (by rw [Ser]; decide)
      rw [Ser] at M1
      obtain ⟨g24, eg⟩ : ∃ k, x6.heap.size = k := ⟨_, rfl⟩
      rw [eg] at h24 ⊢
      clear eg ho Ser k23
      refine M1.mono ?_
      rintro e x8 ⟨rfl, hb⟩
      replace I := I.on hb
      replace h23 := h23.on hb
      replace h24 := h24.on hb
      clear M1 hb
      obtain ⟨⟨c0, c1, c2, c3⟩, f0, f1, f2, f3, l1⟩ := h23.facts4
      obtain ⟨⟨d0, d1, d2, d3⟩, _, _, _, _, l2⟩ := h24.facts4
      have e0 := bools_cell I.f (i := 0) (by have := T.lf; omega)
      go_wp2
      clear c0 c1 c2 c3 f0 f1 f2 f3 l1 d0 d1 d2 d3 l2 e0 h24
      obtain ⟨wo3, ewo⟩ : ∃ wo : World, wo = wr := ⟨_, rfl⟩
      subst ewo
      go_loopw [29] (fun i wr => ∃ m : Nat, m ≤ 8 ∧ i = .int .i64 m ∧ InvL P b g9 g10 g12 g13 g14 pp dd ww ff L ps ns fs w wr ∧ BlkIs wr g23 (shA (pp 0) (dd 0) (ww 0) (ff 0)) 27) (fun i _ => 8 - (intOf i).toNat)
      case atStart => exact ⟨0, by omega, rfl, I, h23⟩
      case round =>
        clear I h23
        obtain ⟨m, hm, rfl, I, h23⟩ := hrel
        by_cases hlt : m < 8
        · go_upto_block 6 with fail
          refine round_any (j := 0) (C := 0) (by omega) hlt (by omega) iC'.out O T I h23 _ _ _ _ _ _ _ _ _ _ _ _ _ _ _ _ _ _ _ _ _ _ _ _ _ _ _ _ _ _ _ _ _ _ _ _ _ _ _ _ _ _ _ _ _ _ _ _ _ _ _ _ _ _ _ _ _ _ _ _ _ _ _ _ _ _ _ _ _ _ _ _ _ _ _ _ _ _ _ _ _ _ _ _ _ _ _ _ _ _ _ _ _ _ _ _ _ _ _ _ _ _ _ _ _ _ _ _ _ _ _ _ _ _ _ _ _ _ _ _ _ _ _ _ _ _ _ _ _ _ _ _ _ _ _ _ _ _ _ _ _ _ _ _ _ _ _ _ _ _ _ _ _ _ _ _ _ _ _ _ _ _ _ _ _ _ _ _ _ _ _ _ _ _ _ _ _ _ _ _ _ _ _ _ _ _ _ _ _ _ _ _ _ _ _ _ _ _ _ _ _ _ _ _ _ _ _ _ _ _ _ _ _ _ _ _ _ _ _ _ _ _ _ _ _ _ _ _ _ _ _ _ _ _ _ _ _ _ _ _ _ _ _ _ _ _ _ _ _ _ _ _ _ _ ?_
          intros
          rename_i y I2 h232
          go_wp2
          go_roundw
          case rel => exact ⟨m + 1, by omega, by go_num, I2, h232⟩
          case measure => simp [intOf]; omega
        · go_wp2_with fail
          go_roundw
          case rel => exact ⟨1, by simp, rfl, I⟩
          case measure => simp [intOf]
    · skip
      have O := T.obj 1 (by omega)
      have Ser := T.ser 1 (by omega)
      have iC : IntKind.i64.wrap (((1 : Nat) : Int) * (A : Int)) = ((A : Nat) : Int) := by rw [show (((1 : Nat) : Int) * (A : Int)) = ((A : Nat) : Int) from by omega]; exact IntWalk.i64_in _ (by omega)
      rw [Nat.one_mul] at O Ser
      obtain ⟨⟨c0, c1, c2, c3⟩, f0, f1, f2, f3, l1⟩ := I.s.facts4
      obtain ⟨⟨d0, d1, d2, d3⟩, _, _, _, _, l2⟩ := I.t.facts4
      have iC' := Lib.hid iC
      clear iC
      go_wp2_with fail
      have ho := ((Below.refl wr.heap.size wr).alloc (Nat.le_refl _) (.cells #[.int .i64 (pp 0), .int .i64 (dd 0), .bool (ww 0), .bool (ff 0), .int .i64 (pp 1), .int .i64 (dd 1), .bool (ww 1), .bool (ff 1)] 27)).alloc (by simp) (.cells (shA (pp 1) (dd 1) (ww 1) (ff 1)) 27)
      have h23 := BlkIs.new (wr.alloc (.cells #[.int .i64 (pp 0), .int .i64 (dd 0), .bool (ww 0), .bool (ff 0), .int .i64 (pp 1), .int .i64 (dd 1), .bool (ww 1), .bool (ff 1)] 27)) (shA (pp 1) (dd 1) (ww 1) (ff 1)) 27
      rw [show (wr.alloc (.cells #[.int .i64 (pp 0), .int .i64 (dd 0), .bool (ww 0), .bool (ff 0), .int .i64 (pp 1), .int .i64 (dd 1), .bool (ww 1), .bool (ff 1)] 27)).heap.size = wr.heap.size + 1 from by simp] at h23
      replace I := I.on ho
      have M1 := shape_at A _ I.ar O
      clear c0 c1 c2 c3 f0 f1 f2 f3 l1 d0 d1 d2 d3 l2
      obtain ⟨g23, eg⟩ : ∃ k, wr.heap.size + 1 = k := ⟨_, rfl⟩
      rw [eg] at h23 ⊢
      clear eg ho
      refine M1.mono ?_
      rintro e x6 ⟨rfl, hb⟩
      replace I := I.on hb
      replace h23 := h23.on hb
      have k23 := h23.lt
      clear M1 hb
      go_wp2_with fail
      have ho := (Below.refl x6.heap.size x6).alloc (Nat.le_refl _) (.cells (shA (pp 1) (dd 1) (ww 1) (ff 1)) 27)
      have h24 := BlkIs.new x6 (shA (pp 1) (dd 1) (ww 1) (ff 1)) 27
      replace I := I.on ho
      replace h23 := h23.on ho
      have M1 := serial_at A _ I.ar O (by rw [Ser]; decide)
      rw [Ser] at M1
      obtain ⟨g24, eg⟩ : ∃ k, x6.heap.size = k := ⟨_, rfl⟩
      rw [eg] at h24 ⊢
      clear eg ho Ser k23
      refine M1.mono ?_
      rintro e x8 ⟨rfl, hb⟩
      replace I := I.on hb
      replace h23 := h23.on hb
      replace h24 := h24.on hb
      clear M1 hb
      obtain ⟨⟨c0, c1, c2, c3⟩, f0, f1, f2, f3, l1⟩ := h23.facts4
      obtain ⟨⟨d0, d1, d2, d3⟩, _, _, _, _, l2⟩ := h24.facts4
      have e0 := bools_cell I.f (i := 1) (by have := T.lf; omega)
      go_wp2
      clear c0 c1 c2 c3 f0 f1 f2 f3 l1 d0 d1 d2 d3 l2 e0 h24
      obtain ⟨wo3, ewo⟩ : ∃ wo : World, wo = wr := ⟨_, rfl⟩
      subst ewo
      go_loopw [29] (fun i wr => ∃ m : Nat, m ≤ 8 ∧ i = .int .i64 m ∧ InvL P b g9 g10 g12 g13 g14 pp dd ww ff L ps ns fs w wr ∧ BlkIs wr g23 (shA (pp 1) (dd 1) (ww 1) (ff 1)) 27) (fun i _ => 8 - (intOf i).toNat)
      case atStart => exact ⟨0, by omega, rfl, I, h23⟩
      case round =>
        clear I h23
        obtain ⟨m, hm, rfl, I, h23⟩ := hrel
        by_cases hlt : m < 8
        · go_upto_block 6 with fail
          refine round_any (j := 1) (C := A) (by omega) hlt (by omega) iC'.out O T I h23 _ _ _ _ _ _ _ _ _ _ _ _ _ _ _ _ _ _ _ _ _ _ _ _ _ _ _ _ _ _ _ _ _ _ _ _ _ _ _ _ _ _ _ _ _ _ _ _ _ _ _ _ _ _ _ _ _ _ _ _ _ _ _ _ _ _ _ _ _ _ _ _ _ _ _ _ _ _ _ _ _ _ _ _ _ _ _ _ _ _ _ _ _ _ _ _ _ _ _ _ _ _ _ _ _ _ _ _ _ _ _ _ _ _ _ _ _ _ _ _ _ _ _ _ _ _ _ _ _ _ _ _ _ _ _ _ _ _ _ _ _ _ _ _ _ _ _ _ _ _ _ _ _ _ _ _ _ _ _ _ _ _ _ _ _ _ _ _ _ _ _ _ _ _ _ _ _ _ _ _ _ _ _ _ _ _ _ _ _ _ _ _ _ _ _ _ _ _ _ _ _ _ _ _ _ _ _ _ _ _ _ _ _ _ _ _ _ _ _ _ _ _ _ _ _ _ _ _ _ _ _ _ _ _ _ _ _ _ _ _ _ _ _ _ _ _ _ _ _ _ _ _ _ _ ?_
          intros
          rename_i y I2 h232
          go_wp2
          go_roundw
          case rel => exact ⟨m + 1, by omega, by go_num, I2, h232⟩
          case measure => simp [intOf]; omega
        · go_wp2_with fail
          go_roundw
          case rel => exact ⟨2, by simp, rfl, I⟩
          case measure => simp [intOf]
    · go_wp2_with fail
      first | exact I | (apply hK; exact I)

end Go.Proofs.Ytencoabgdnmbaaa.objectSets
