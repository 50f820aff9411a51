/-
  The loop of TopSkipperVotes over the levels, as a theorem of its own. Conditions: written at it.
-/
import Derived.Test.YtkgeeooijgcdkaaGreatDoorU5
import Derived.Test.YtkgeeooijgcdkaaGreatDoorU1
import Derived.Test.YtkgeeooijgcdkaaGreatDoorT2
import Derived.BigQuiet
namespace Go.Proofs.YtkgeeooijgcdkaaGreatDoor
open Go.RowKit
attribute [local go_sem] Oper.semAt_some

theorem rdLs {W V : World} {A : Option Addr} {n c : Nat} {l : List Nat} (h : Rd W W.heap.size (.slice A n c) n (flc l)) (hl : l.length = n) (hb : Below W.heap.size W V) {k : Nat} (hk : k < n) : ∃ b o, A = some ⟨b, o, none⟩ ∧ V.cell? ⟨b, o + k, none⟩ = some (.float .f32 (l.getD k 0)) := by
  obtain ⟨A', c', e', -, -, hx⟩ := h
  cases e'
  obtain ⟨b, o, rfl, hbb, hc⟩ := hx (by omega)
  exact ⟨b, o, rfl, (hb.cell (p := ⟨b, _, none⟩) hbb).trans ((hc k (by simpa [flc, hl] using hk)).trans (flc_at l k (by omega)))⟩
theorem farF_step (bs bs' : List Nat) (gs gs' : List (Int × Int)) (tol : Int) (k : Nat) (b : Bool) (h : (!hasL gs (k : Int) && (!hasL gs' (k : Int) && decide (tol < max (s16 (bs.getD k 0) - s16 (bs'.getD k 0)) (-(s16 (bs.getD k 0) - s16 (bs'.getD k 0)))))) = b) : farF bs bs' gs gs' tol (k + 1) = farF bs bs' gs gs' tol k + (if b then 1 else 0) := by
  rw [farF, h]

set_option maxRecDepth 1000000 in
set_option maxHeartbeats 8000000 in
theorem sv_l1 (nma nmb : ByteArray) (st tol : Int) (Aa Ba Ab Bb : Option Addr) (ca da cb db n BA BB : Nat) (bsa bsb : List Nat) (gsa gsb : List (Int × Int)) (W w : World) (Q0 : Exit → Act → World → Prop)
    (HQA : Hid (W.heap[BA]? = some (.cells #[.string nma, .int .i64 st, .slice Aa n ca, .slice Ba gsa.length da] 25 (0, 0)))) (HQB : Hid (W.heap[BB]? = some (.cells #[.string nmb, .int .i64 st, .slice Ab n cb, .slice Bb gsb.length db] 25 (0, 0))))
    (HLa : Hid (Rd W W.heap.size (.slice Aa n ca) n (flc bsa))) (HGa : Hid (Rd W W.heap.size (.slice Ba gsa.length da) gsa.length (spc gsa))) (HLb : Hid (Rd W W.heap.size (.slice Ab n cb) n (flc bsb))) (HGb : Hid (Rd W W.heap.size (.slice Bb gsb.length db) gsb.length (spc gsb)))
    (HN : Hid (bsa.length = n ∧ bsb.length = n ∧ n ≤ 100000 ∧ 0 ≤ tol ∧ tol ≤ 2048)) (HV : Hid (∀ j, j < n → chkLev (bsa.getD j 0) = 0 ∧ chkLev (bsb.getD j 0) = 0)) (HJ0 : Hid (Below W.heap.size W w))
    {t0 t1 t2 t5 t6 t8 t9 t10 t11 t12 t13 t14 t16 t17 t18 t19 t20 t21 t22 t23 t24 t25 t26 t27 t28 t29 t30 t31 t32 t33 t34 t35 t36 t37 t38 t39 t40 t41 t42 t43 t44 t45 t46 t47 t48 t49 t50 t51 t52 t53 t54 t55 t56 t57 t58 t59 t60 t61 t62 t63 t64 t65 t66 t67 t68 t69 t70 t71 t72 t73 t74 t75 t76 t77 t78 t79 t80 t81 t82 t83 t84 t85 t86 t87 t88 t89 t90 t91 t92 t93 t94 t95 t96 t97 t98 t99 t100 t101 t102 t103 t104 t105 t106 t107 t108 t109 t110 t111 t112 t113 t114 t115 t116 t117 t118 t119 t120 t121 t122 t123 t124 t125 t126 t127 t128 t129 t130 t131 t132 t133 t134 t135 t136 t137 t138 t139 t140 t141 t142 t143 t144 t145 t146 t147 t148 t149 t150 t151 t152 t153 t154 t155 t156 t157 t161 t162 t163 t164 t165 t166 t167 t168 t169 t170 t171 t172 t173 t174 t175 t176 t177 t178 t179 t180 t181 t182 t183 t184 t185 t186 t187 t188 t189 t190 t191 t192 t193 t194 t195 t196 t197 t198 t199 t200 t201 t202 t203 t204 t205 t206 t207 t208 t209 t210 t211 t212 t213 t214 t215 t216 t217 t218 t219 t220 t221 t222 t223 t224 t225 t226 t227 : Value}
    (hexit : ∀ (u16 u17 u18 u160 u161 u162 u163 u164 u165 u166 u167 u168 u169 u170 u171 u172 u173 u174 u175 u176 u177 u178 u179 u180 u181 u182 u183 u184 u185 u186 u187 u188 u189 u190 u191 u192 : Value) (w' : World), Below W.heap.size W w' → Q0 (.exit 0) ⟨List.toArray (t0 :: t1 :: t2 :: .pointer (some ⟨BA, 0, none⟩) :: .pointer (some ⟨BB, 0, none⟩) :: t5 :: t6 :: .int .i64 tol :: t8 :: t9 :: t10 :: t11 :: t12 :: t13 :: t14 :: .int .i64 (farF bsa bsb gsa gsb tol n) :: u16 :: u17 :: u18 :: t19 :: t20 :: t21 :: t22 :: t23 :: t24 :: t25 :: t26 :: t27 :: t28 :: t29 :: t30 :: t31 :: t32 :: t33 :: t34 :: t35 :: t36 :: t37 :: t38 :: t39 :: t40 :: t41 :: t42 :: t43 :: t44 :: t45 :: t46 :: t47 :: t48 :: t49 :: t50 :: t51 :: t52 :: t53 :: t54 :: t55 :: t56 :: t57 :: t58 :: t59 :: t60 :: t61 :: t62 :: t63 :: t64 :: t65 :: t66 :: t67 :: t68 :: t69 :: t70 :: t71 :: t72 :: t73 :: t74 :: t75 :: t76 :: t77 :: t78 :: t79 :: t80 :: t81 :: t82 :: t83 :: t84 :: t85 :: t86 :: t87 :: t88 :: t89 :: t90 :: t91 :: t92 :: t93 :: t94 :: t95 :: t96 :: t97 :: t98 :: t99 :: t100 :: t101 :: t102 :: t103 :: t104 :: t105 :: t106 :: t107 :: t108 :: t109 :: t110 :: t111 :: t112 :: t113 :: t114 :: t115 :: t116 :: t117 :: t118 :: t119 :: t120 :: t121 :: t122 :: t123 :: t124 :: t125 :: t126 :: t127 :: t128 :: t129 :: t130 :: t131 :: t132 :: t133 :: t134 :: t135 :: t136 :: t137 :: t138 :: t139 :: t140 :: t141 :: t142 :: t143 :: t144 :: t145 :: t146 :: t147 :: t148 :: t149 :: t150 :: t151 :: t152 :: t153 :: t154 :: t155 :: t156 :: t157 :: .slice Aa n ca :: .int .i64 n :: u160 :: u161 :: u162 :: u163 :: u164 :: u165 :: u166 :: u167 :: u168 :: u169 :: u170 :: u171 :: u172 :: u173 :: u174 :: u175 :: u176 :: u177 :: u178 :: u179 :: u180 :: u181 :: u182 :: u183 :: u184 :: u185 :: u186 :: u187 :: u188 :: u189 :: u190 :: u191 :: u192 :: t193 :: t194 :: t195 :: t196 :: t197 :: t198 :: t199 :: t200 :: t201 :: t202 :: t203 :: t204 :: t205 :: t206 :: t207 :: t208 :: t209 :: t210 :: t211 :: t212 :: t213 :: t214 :: t215 :: t216 :: t217 :: t218 :: t219 :: t220 :: t221 :: t222 :: t223 :: t224 :: t225 :: t226 :: t227 :: []), []⟩ w') :
    Code.wp Tryz.prog (Code.loop sL1) Q0 ⟨List.toArray (t0 :: t1 :: t2 :: .pointer (some ⟨BA, 0, none⟩) :: .pointer (some ⟨BB, 0, none⟩) :: t5 :: t6 :: .int .i64 tol :: t8 :: t9 :: t10 :: t11 :: t12 :: t13 :: t14 :: .int .i64 0 :: t16 :: t17 :: t18 :: t19 :: t20 :: t21 :: t22 :: t23 :: t24 :: t25 :: t26 :: t27 :: t28 :: t29 :: t30 :: t31 :: t32 :: t33 :: t34 :: t35 :: t36 :: t37 :: t38 :: t39 :: t40 :: t41 :: t42 :: t43 :: t44 :: t45 :: t46 :: t47 :: t48 :: t49 :: t50 :: t51 :: t52 :: t53 :: t54 :: t55 :: t56 :: t57 :: t58 :: t59 :: t60 :: t61 :: t62 :: t63 :: t64 :: t65 :: t66 :: t67 :: t68 :: t69 :: t70 :: t71 :: t72 :: t73 :: t74 :: t75 :: t76 :: t77 :: t78 :: t79 :: t80 :: t81 :: t82 :: t83 :: t84 :: t85 :: t86 :: t87 :: t88 :: t89 :: t90 :: t91 :: t92 :: t93 :: t94 :: t95 :: t96 :: t97 :: t98 :: t99 :: t100 :: t101 :: t102 :: t103 :: t104 :: t105 :: t106 :: t107 :: t108 :: t109 :: t110 :: t111 :: t112 :: t113 :: t114 :: t115 :: t116 :: t117 :: t118 :: t119 :: t120 :: t121 :: t122 :: t123 :: t124 :: t125 :: t126 :: t127 :: t128 :: t129 :: t130 :: t131 :: t132 :: t133 :: t134 :: t135 :: t136 :: t137 :: t138 :: t139 :: t140 :: t141 :: t142 :: t143 :: t144 :: t145 :: t146 :: t147 :: t148 :: t149 :: t150 :: t151 :: t152 :: t153 :: t154 :: t155 :: t156 :: t157 :: .slice Aa n ca :: .int .i64 n :: .int .i64 0 :: t161 :: t162 :: t163 :: t164 :: t165 :: t166 :: t167 :: t168 :: t169 :: t170 :: t171 :: t172 :: t173 :: t174 :: t175 :: t176 :: t177 :: t178 :: t179 :: t180 :: t181 :: t182 :: t183 :: t184 :: t185 :: t186 :: t187 :: t188 :: t189 :: t190 :: t191 :: t192 :: t193 :: t194 :: t195 :: t196 :: t197 :: t198 :: t199 :: t200 :: t201 :: t202 :: t203 :: t204 :: t205 :: t206 :: t207 :: t208 :: t209 :: t210 :: t211 :: t212 :: t213 :: t214 :: t215 :: t216 :: t217 :: t218 :: t219 :: t220 :: t221 :: t222 :: t223 :: t224 :: t225 :: t226 :: t227 :: []), []⟩ w := by
  conv => arg 2; arg 1; whnf
  have HX := hd hexit
  clear hexit
  go_loopw [15, 160] (fun s15 s160 wr => ∃ k : Nat, k ≤ n ∧ s160 = .int .i64 k ∧ s15 = .int .i64 (farF bsa bsb gsa gsb tol k) ∧ Hid (Below W.heap.size W wr)) (fun _ s160 _ => n - (intOf s160).toNat)
  case atStart => exact ⟨0, Nat.zero_le _, rfl, rfl, HJ0⟩
  case round =>
    obtain ⟨k, hk, rfl, rfl, HJ⟩ := hrel
    by_cases hlt : k < n
    · have hki : (k : Int) < (n : Int) := by omega
      have HLT := hd (show k < n ∧ n ≤ 100000 from ⟨hlt, HN.out.2.2.1⟩)
      have hnn : n ≤ 100000 := HN.out.2.2.1
      obtain ⟨h1, h2⟩ := HV.out k hlt
      obtain ⟨f, hf⟩ : ∃ f, f = farF bsa bsb gsa gsb tol k := ⟨_, rfl⟩
      have hfb := farF_le bsa bsb gsa gsb tol k
      rw [← hf] at hfb ⊢
      obtain ⟨hf0, hf1⟩ := hfb
      have HF := hd hf
      clear hf
      obtain ⟨xb, xo, rfl, hx0⟩ := rdLs HLa.out HN.out.1 HJ.out hlt
      obtain ⟨yb, yo, rfl, hy0⟩ := rdLs HLb.out HN.out.2.1 HJ.out hlt
      obtain ⟨x, hx⟩ : ∃ x, x = bsa.getD k 0 := ⟨_, rfl⟩
      obtain ⟨y, hy⟩ : ∃ y, y = bsb.getD k 0 := ⟨_, rfl⟩
      rw [← hx] at hx0 h1
      rw [← hy] at hy0 h2
      have HXY := hd (And.intro hx hy)
      clear hx hy
      obtain ⟨a1, a2⟩ := s16_in h1
      obtain ⟨b1, b2⟩ := s16_in h2
      have HS1 := hd (fun W => refSixt_any x W h1)
      have HS2 := hd (fun W => refSixt_any y W h2)
      clear h1 h2
      obtain ⟨a, ha⟩ : ∃ a, a = s16 x := ⟨_, rfl⟩
      obtain ⟨b, hb⟩ : ∃ b, b = s16 y := ⟨_, rfl⟩
      rw [← ha] at HS1 a1 a2
      rw [← hb] at HS2 b1 b2
      have HAB := hd (And.intro ha hb)
      clear ha hb
      have hqb := (HJ.out.block _ (blk_lt HQB.out)).trans HQB.out
      have d2 := blk_cell hqb 2
      simp at d2
      clear hqb
      have FB2 : ∀ p : Bw wr, p.out.cell? ⟨BB, 2, none⟩ = some (.slice (some ⟨yb, yo, none⟩) n cb) := fun p => p.cell (World.block_lt_of_cell? _ _ d2) d2
      have FY : ∀ p : Bw wr, p.out.cell? ⟨yb, yo + k, none⟩ = some (.float .f32 y) := fun p => p.cell (World.block_lt_of_cell? _ _ hy0) hy0
      clear d2 hy0
      have hw : IntKind.i64.wrap (a - b) = a - b := IntWalk.i64_in _ (by omega)
      go_wp2_with fail
      refine wp_region_bw (by kernel_rfl) (by kernel_rfl) ?_
      repeat (first | go_big_quiet_step (first | (go_at_call 11; first | exact Bw.pure _ (HS1.out _) | exact Bw.pure _ (HS2.out _))))
      refine wpQuiet_nil ?_
      rintro ⟨w2, hb⟩
      change Exit.then _ _ _ _ w2
      have HJ2 := hd (HJ.out.trans (hb.mono HJ.out.size))
      clear hb HJ FB2 FY HS1 HS2 hx0 hw
      have hZ := cells4 ((HJ2.out.block _ (blk_lt HQA.out)).trans HQA.out)
      obtain ⟨k0, k1, k2, k3⟩ := hZ
      go_wp2_with fail
      refine (refRecorded_any nma st _ Ba n ca da gsa k _ ((HGa.out.below HJ2.out (Nat.le_refl _)).mono HJ2.out.size) hlt).mono ?_
      rintro e w3 ⟨rfl, hb⟩
      have HJ3 := hd (HJ2.out.trans (hb.mono HJ2.out.size))
      clear hb HJ2 k0 k1 k2 k3
      obtain ⟨p, hp⟩ : ∃ p, p = hasL gsa (k : Int) := ⟨_, rfl⟩
      rw [← hp]
      have HP := hd hp
      clear hp
      cases p
      · have hZ := cells4 ((HJ3.out.block _ (blk_lt HQB.out)).trans HQB.out)
        obtain ⟨k0, k1, k2, k3⟩ := hZ
        go_wp2_with fail
        refine (refRecorded_any nmb st _ Bb n cb db gsb k _ ((HGb.out.below HJ3.out (Nat.le_refl _)).mono HJ3.out.size) hlt).mono ?_
        rintro e w4 ⟨rfl, hb⟩
        have HJ4 := hd (HJ3.out.trans (hb.mono HJ3.out.size))
        clear hb HJ3 k0 k1 k2 k3
        obtain ⟨q, hq⟩ : ∃ q, q = hasL gsb (k : Int) := ⟨_, rfl⟩
        rw [← hq]
        have HQ := hd hq
        clear hq
        cases q
        · have hw2 : IntKind.i64.wrap (-(a - b)) = -(a - b) := IntWalk.i64_in _ (by omega)
          by_cases hgt : tol < max (a - b) (-(a - b))
          · skip
            have HFS := hd (farF_step bsa bsb gsa gsb tol k true (by rw [← HP.out, ← HQ.out, ← HXY.out.1, ← HXY.out.2, ← HAB.out.1, ← HAB.out.2, decide_eq_true hgt]; rfl))
            go_wp2
            go_roundw
            case rel => exact ⟨k + 1, by have := HLT.out; omega, by have := HLT.out; go_num, by rw [HFS.out, ← HF.out]; simp, HJ4⟩
            case measure => have := HLT.out; simp [intOf]; omega
          · skip
            have HFS := hd (farF_step bsa bsb gsa gsb tol k false (by rw [← HP.out, ← HQ.out, ← HXY.out.1, ← HXY.out.2, ← HAB.out.1, ← HAB.out.2, decide_eq_false hgt]; rfl))
            go_wp2
            go_roundw
            case rel => exact ⟨k + 1, by have := HLT.out; omega, by have := HLT.out; go_num, by rw [HFS.out, ← HF.out]; simp, HJ4⟩
            case measure => have := HLT.out; simp [intOf]; omega
        · skip
          have HFS := hd (farF_step bsa bsb gsa gsb tol k false (by rw [← HP.out, ← HQ.out]; simp))
          go_wp2
          go_roundw
          case rel => exact ⟨k + 1, by have := HLT.out; omega, by have := HLT.out; go_num, by rw [HFS.out, ← HF.out]; simp, HJ4⟩
          case measure => have := HLT.out; simp [intOf]; omega
      · skip
        have HFS := hd (farF_step bsa bsb gsa gsb tol k false (by rw [← HP.out]; simp))
        go_wp2
        go_roundw
        case rel => exact ⟨k + 1, by have := HLT.out; omega, by have := HLT.out; go_num, by rw [HFS.out, ← HF.out]; simp, HJ3⟩
        case measure => have := HLT.out; simp [intOf]; omega
    · have hki : ¬ (k : Int) < (n : Int) := by omega
      obtain rfl : k = n := by omega
      go_wp2
      exact HX.out _ _ _ _ _ _ _ _ _ _ _ _ _ _ _ _ _ _ _ _ _ _ _ _ _ _ _ _ _ _ _ _ _ _ _ _ _ HJ.out
end Go.Proofs.YtkgeeooijgcdkaaGreatDoor
