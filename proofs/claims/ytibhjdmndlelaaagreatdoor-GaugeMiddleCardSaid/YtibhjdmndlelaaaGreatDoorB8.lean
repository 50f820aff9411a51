/-
  The loop of GaugeMiddle over the gauges at a tick: how many are recorded, the least and the greatest one. Conditions: written at it.
-/
import Derived.Test.YtibhjdmndlelaaaGreatDoorB2
import Derived.Test.YtibhjdmndlelaaaGreatDoorB7
import Derived.BigQuiet
namespace Go.Proofs.YtibhjdmndlelaaaGreatDoor
open Go.RowKit
attribute [local go_sem] Oper.semAt_some


theorem idx3m0 (a0 a1 a2 a3 a4 a5 a6 a7 a8 a9 a10 a11 : Value) (w : World) : (Instr.index 26 (.agg #[a0, a1, a2, a3, a4, a5, a6, a7, a8, a9, a10, a11]) (.int .i64 0)).run Tryz.prog w = .ok (.agg #[a0, a1, a2, a3]) w := by kernel_rfl
theorem idx3m1 (a0 a1 a2 a3 a4 a5 a6 a7 a8 a9 a10 a11 : Value) (w : World) : (Instr.index 26 (.agg #[a0, a1, a2, a3, a4, a5, a6, a7, a8, a9, a10, a11]) (.int .i64 1)).run Tryz.prog w = .ok (.agg #[a4, a5, a6, a7]) w := by kernel_rfl
theorem idx3m2 (a0 a1 a2 a3 a4 a5 a6 a7 a8 a9 a10 a11 : Value) (w : World) : (Instr.index 26 (.agg #[a0, a1, a2, a3, a4, a5, a6, a7, a8, a9, a10, a11]) (.int .i64 2)).run Tryz.prog w = .ok (.agg #[a8, a9, a10, a11]) w := by kernel_rfl
theorem rdLm {W V : World} {A : Option Addr} {n c : Nat} {l : List Nat} (h : Rd W W.heap.size (.slice A n c) n (flc l)) (hl : l.length = n) (hb : Below W.heap.size W V) {k : Nat} (hk : k < n) : ∃ b o, A = some ⟨b, o, none⟩ ∧ V.cell? ⟨b, o + k, none⟩ = some (.float .f32 (l.getD k 0)) := by
  obtain ⟨A', c', e', -, -, hx⟩ := h
  cases e'
  obtain ⟨b, o, rfl, hbb, hc⟩ := hx (by omega)
  exact ⟨b, o, rfl, (hb.cell (p := ⟨b, _, none⟩) hbb).trans ((hc k (by simpa [flc, hl] using hk)).trans (flc_at l k (by omega)))⟩
/-- What the loop has of the least and the greatest. -/
def Bnd (bs : Nat → List Nat) (gs : Nat → List (Int × Int)) (i k lo hi : Nat) : Prop := chkLev lo = 0 ∧ chkLev hi = 0 ∧ (0 < (rSk bs gs i k).length → s16 lo = mnF bs gs i k ∧ s16 hi = mxF bs gs i k)
theorem bnd_gap {bs : Nat → List Nat} {gs : Nat → List (Int × Int)} {i k lo hi : Nat} (h : Bnd bs gs i k lo hi) (hg : hasL (gs k) (i : Int) = true) : Bnd bs gs i (k + 1) lo hi ∧ (rSk bs gs i (k + 1)).length = (rSk bs gs i k).length := by
  unfold Bnd at h ⊢
  rw [rSk_no hg, mnF, mxF, hg]
  exact ⟨h, rfl⟩
theorem bnd_rec {bs : Nat → List Nat} {gs : Nat → List (Int × Int)} {i k lo hi x : Nat} (h : Bnd bs gs i k lo hi) (hg : hasL (gs k) (i : Int) = false) (hx : x = (bs k).getD i 0) (hc : chkLev x = 0) (lo' hi' : Nat)
    (h1 : lo' = if (rSk bs gs i k).length = 0 ∨ flt x lo = true then x else lo) (h2 : hi' = if (rSk bs gs i k).length = 0 ∨ fgt x hi = true then x else hi) : Bnd bs gs i (k + 1) lo' hi' ∧ (rSk bs gs i (k + 1)).length = (rSk bs gs i k).length + 1 := by
  obtain ⟨c1, c2, c3⟩ := h
  have f1 : flt x lo = decide (s16 x < s16 lo) := by rw [flt_num (fin_lev hc) (fin_lev c1), decide_eq_decide]; exact num_lt hc c1
  have f2 : fgt x hi = decide (s16 hi < s16 x) := by rw [fgt_num (fin_lev hc) (fin_lev c2), decide_eq_decide]; exact num_lt c2 hc
  simp only [f1, decide_eq_true_eq] at h1
  simp only [f2, decide_eq_true_eq] at h2
  unfold Bnd
  rw [rSk_yes hg, mnF, mxF, hg, ← hx]
  simp only [List.length_append, List.length_cons, List.length_nil, Bool.false_eq_true, if_false]
  refine ⟨⟨?_, ?_, fun _ => ⟨?_, ?_⟩⟩, trivial⟩
  · rw [h1]; split <;> assumption
  · rw [h2]; split <;> assumption
  · by_cases h0 : (rSk bs gs i k).length = 0
    · rw [if_pos h0, h1, if_pos (.inl h0)]
    · rw [if_neg h0]
      obtain ⟨d1, -⟩ := c3 (by omega)
      by_cases hl : s16 x < s16 lo
      · rw [h1, if_pos (.inr hl)]; omega
      · rw [h1, if_neg (by intro hh; rcases hh with hh | hh; exact h0 hh; exact hl hh)]; omega
  · by_cases h0 : (rSk bs gs i k).length = 0
    · rw [if_pos h0, h2, if_pos (.inl h0)]
    · rw [if_neg h0]
      obtain ⟨-, d2⟩ := c3 (by omega)
      by_cases hl : s16 hi < s16 x
      · rw [h2, if_pos (.inr hl)]; omega
      · rw [h2, if_neg (by intro hh; rcases hh with hh | hh; exact h0 hh; exact hl hh)]; omega

set_option maxRecDepth 1000000 in
set_option maxHeartbeats 16000000 in
theorem mid_l3 (nm0 nm1 nm2 : ByteArray) (st : Int) (A0 B0 A1 B1 A2 B2 : Option Addr) (c0 d0 c1 d1 c2 d2 n i : Nat) (bs0 bs1 bs2 : List Nat) (gs0 gs1 gs2 : List (Int × Int)) (W w : World) (Q0 : Exit → Act → World → Prop)
    (HL0 : Hid (Rd W W.heap.size (.slice A0 bs0.length c0) bs0.length (flc bs0))) (HG0 : Hid (Rd W W.heap.size (.slice B0 gs0.length d0) gs0.length (spc gs0))) (HL1 : Hid (Rd W W.heap.size (.slice A1 bs1.length c1) bs1.length (flc bs1))) (HG1 : Hid (Rd W W.heap.size (.slice B1 gs1.length d1) gs1.length (spc gs1))) (HL2 : Hid (Rd W W.heap.size (.slice A2 bs2.length c2) bs2.length (flc bs2))) (HG2 : Hid (Rd W W.heap.size (.slice B2 gs2.length d2) gs2.length (spc gs2)))
    (HN : Hid (bs0.length = n ∧ bs1.length = n ∧ bs2.length = n ∧ n ≤ 100000 ∧ i < n)) (HV : Hid (chkLev (bs0.getD i 0) = 0 ∧ chkLev (bs1.getD i 0) = 0 ∧ chkLev (bs2.getD i 0) = 0)) (HJ0 : Hid (Below W.heap.size W w))
    {t0 t1 t2 t3 t4 t5 t6 t7 t8 t9 t10 t11 t12 t13 t14 t15 t16 t17 t18 t19 t21 t25 t26 t27 t28 t29 t30 t31 t32 t33 t34 t35 t36 t37 t38 t39 t40 t41 t42 t43 t44 t45 t46 t47 t48 t49 t50 t51 t52 t53 t54 t55 t56 t57 t58 t59 t60 t61 t62 t63 t64 t65 t66 t67 t68 t69 t70 t71 t72 t73 t74 t75 t76 t77 t78 t79 t80 t81 t82 t83 t84 t85 t86 t87 t88 t89 t90 t91 t92 t93 t94 t95 t96 t97 t98 t99 t100 t101 t102 t103 t104 t105 t106 t107 t108 t109 t110 t111 t112 t113 t114 t115 t116 t117 t118 t119 t120 t121 t122 t123 t124 t125 t126 t127 t128 t129 t130 t131 t132 t133 t134 t135 t136 t137 t138 t139 t140 t141 t142 t143 t144 t145 t146 t147 t148 t149 t150 t151 t152 t153 t154 t155 t156 t157 t158 t159 t160 t161 t162 t163 t164 t165 t166 t167 t168 t169 t170 t171 t172 t173 t174 t175 t176 t177 t178 t179 t180 t181 t182 t183 t184 t185 t186 t187 t188 t189 t190 t191 t192 t193 t194 t195 t196 t197 t198 t199 t200 t201 t202 t203 t204 t205 t206 t207 t208 t209 t210 t211 t212 t213 t214 t215 t216 t217 t218 t219 t220 t221 t222 t223 t224 t225 t226 t227 t228 t229 t230 t231 t232 t233 t234 t235 t236 t237 t240 t241 t242 t243 t244 t245 t246 t247 t248 t249 t250 t251 t252 t253 t254 t255 t256 t257 t258 t259 t260 t261 t262 t263 t264 t265 t266 t267 t268 t269 t270 t271 t272 t273 t274 t275 t276 t277 t278 t279 t280 t281 t282 t283 t284 t285 t286 t287 t288 t289 t290 t291 t292 t293 t294 t295 t296 t297 t298 t299 t300 t301 t302 t303 t304 t305 t306 t307 t308 t309 t310 t311 t312 t313 t314 t315 t316 t317 t318 t319 t320 t321 t322 t323 t324 t325 t326 t327 t328 t329 t330 t331 t332 t333 t334 t335 t336 t337 t338 t339 t340 t341 t342 t343 t344 t345 t346 t347 t348 t349 t350 t351 t352 t353 t354 t355 t356 t357 t358 t359 t360 t361 t362 t363 t364 t365 t366 t367 t368 t369 t370 t371 t372 t373 t374 t375 t376 : Value}
    (hexit : ∀ (u26 u239 u240 u241 u242 u243 u244 u245 u246 u247 u248 u249 u250 u251 u252 u253 u254 u255 u256 u257 u258 u259 u260 u261 u262 u263 u264 u265 u266 u267 u268 u269 u270 u271 u272 u273 u274 u275 u276 u277 u278 u279 u280 : Value) (lo hi : Nat) (w' : World), Bnd (f3 bs0 bs1 bs2) (f3 gs0 gs1 gs2) i 3 lo hi → Below W.heap.size W w' → Q0 (.exit 4) ⟨List.toArray (t0 :: t1 :: t2 :: t3 :: t4 :: t5 :: t6 :: t7 :: t8 :: t9 :: t10 :: t11 :: t12 :: t13 :: t14 :: t15 :: t16 :: t17 :: t18 :: t19 :: .int .i64 i :: t21 :: .int .i64 (rSk (f3 bs0 bs1 bs2) (f3 gs0 gs1 gs2) i 3).length :: .float .f32 lo :: .float .f32 hi :: t25 :: u26 :: t27 :: t28 :: t29 :: t30 :: t31 :: t32 :: t33 :: t34 :: t35 :: t36 :: t37 :: t38 :: t39 :: t40 :: t41 :: t42 :: t43 :: t44 :: t45 :: t46 :: t47 :: t48 :: t49 :: t50 :: t51 :: t52 :: t53 :: t54 :: t55 :: t56 :: t57 :: t58 :: t59 :: t60 :: t61 :: t62 :: t63 :: t64 :: t65 :: t66 :: t67 :: t68 :: t69 :: t70 :: t71 :: t72 :: t73 :: t74 :: t75 :: t76 :: t77 :: t78 :: t79 :: t80 :: t81 :: t82 :: t83 :: t84 :: t85 :: t86 :: t87 :: t88 :: t89 :: t90 :: t91 :: t92 :: t93 :: t94 :: t95 :: t96 :: t97 :: t98 :: t99 :: t100 :: t101 :: t102 :: t103 :: t104 :: t105 :: t106 :: t107 :: t108 :: t109 :: t110 :: t111 :: t112 :: t113 :: t114 :: t115 :: t116 :: t117 :: t118 :: t119 :: t120 :: t121 :: t122 :: t123 :: t124 :: t125 :: t126 :: t127 :: t128 :: t129 :: t130 :: t131 :: t132 :: t133 :: t134 :: t135 :: t136 :: t137 :: t138 :: t139 :: t140 :: t141 :: t142 :: t143 :: t144 :: t145 :: t146 :: t147 :: t148 :: t149 :: t150 :: t151 :: t152 :: t153 :: t154 :: t155 :: t156 :: t157 :: t158 :: t159 :: t160 :: t161 :: t162 :: t163 :: t164 :: t165 :: t166 :: t167 :: t168 :: t169 :: t170 :: t171 :: t172 :: t173 :: t174 :: t175 :: t176 :: t177 :: t178 :: t179 :: t180 :: t181 :: t182 :: t183 :: t184 :: t185 :: t186 :: t187 :: t188 :: t189 :: t190 :: t191 :: t192 :: t193 :: t194 :: t195 :: t196 :: t197 :: t198 :: t199 :: t200 :: t201 :: t202 :: t203 :: t204 :: t205 :: t206 :: t207 :: t208 :: t209 :: t210 :: t211 :: t212 :: t213 :: t214 :: t215 :: t216 :: t217 :: t218 :: t219 :: t220 :: t221 :: t222 :: t223 :: t224 :: t225 :: t226 :: t227 :: t228 :: t229 :: t230 :: t231 :: t232 :: t233 :: t234 :: t235 :: t236 :: t237 :: .agg #[.string nm0, .int .i64 st, .slice A0 bs0.length c0, .slice B0 gs0.length d0, .string nm1, .int .i64 st, .slice A1 bs1.length c1, .slice B1 gs1.length d1, .string nm2, .int .i64 st, .slice A2 bs2.length c2, .slice B2 gs2.length d2] :: u239 :: u240 :: u241 :: u242 :: u243 :: u244 :: u245 :: u246 :: u247 :: u248 :: u249 :: u250 :: u251 :: u252 :: u253 :: u254 :: u255 :: u256 :: u257 :: u258 :: u259 :: u260 :: u261 :: u262 :: u263 :: u264 :: u265 :: u266 :: u267 :: u268 :: u269 :: u270 :: u271 :: u272 :: u273 :: u274 :: u275 :: u276 :: u277 :: u278 :: u279 :: u280 :: t281 :: t282 :: t283 :: t284 :: t285 :: t286 :: t287 :: t288 :: t289 :: t290 :: t291 :: t292 :: t293 :: t294 :: t295 :: t296 :: t297 :: t298 :: t299 :: t300 :: t301 :: t302 :: t303 :: t304 :: t305 :: t306 :: t307 :: t308 :: t309 :: t310 :: t311 :: t312 :: t313 :: t314 :: t315 :: t316 :: t317 :: t318 :: t319 :: t320 :: t321 :: t322 :: t323 :: t324 :: t325 :: t326 :: t327 :: t328 :: t329 :: t330 :: t331 :: t332 :: t333 :: t334 :: t335 :: t336 :: t337 :: t338 :: t339 :: t340 :: t341 :: t342 :: t343 :: t344 :: t345 :: t346 :: t347 :: t348 :: t349 :: t350 :: t351 :: t352 :: t353 :: t354 :: t355 :: t356 :: t357 :: t358 :: t359 :: t360 :: t361 :: t362 :: t363 :: t364 :: t365 :: t366 :: t367 :: t368 :: t369 :: t370 :: t371 :: t372 :: t373 :: t374 :: t375 :: t376 :: []), []⟩ w') :
    Code.wp Tryz.prog (Code.loop mL3) Q0 ⟨List.toArray (t0 :: t1 :: t2 :: t3 :: t4 :: t5 :: t6 :: t7 :: t8 :: t9 :: t10 :: t11 :: t12 :: t13 :: t14 :: t15 :: t16 :: t17 :: t18 :: t19 :: .int .i64 i :: t21 :: .int .i64 0 :: .float .f32 0 :: .float .f32 0 :: t25 :: t26 :: t27 :: t28 :: t29 :: t30 :: t31 :: t32 :: t33 :: t34 :: t35 :: t36 :: t37 :: t38 :: t39 :: t40 :: t41 :: t42 :: t43 :: t44 :: t45 :: t46 :: t47 :: t48 :: t49 :: t50 :: t51 :: t52 :: t53 :: t54 :: t55 :: t56 :: t57 :: t58 :: t59 :: t60 :: t61 :: t62 :: t63 :: t64 :: t65 :: t66 :: t67 :: t68 :: t69 :: t70 :: t71 :: t72 :: t73 :: t74 :: t75 :: t76 :: t77 :: t78 :: t79 :: t80 :: t81 :: t82 :: t83 :: t84 :: t85 :: t86 :: t87 :: t88 :: t89 :: t90 :: t91 :: t92 :: t93 :: t94 :: t95 :: t96 :: t97 :: t98 :: t99 :: t100 :: t101 :: t102 :: t103 :: t104 :: t105 :: t106 :: t107 :: t108 :: t109 :: t110 :: t111 :: t112 :: t113 :: t114 :: t115 :: t116 :: t117 :: t118 :: t119 :: t120 :: t121 :: t122 :: t123 :: t124 :: t125 :: t126 :: t127 :: t128 :: t129 :: t130 :: t131 :: t132 :: t133 :: t134 :: t135 :: t136 :: t137 :: t138 :: t139 :: t140 :: t141 :: t142 :: t143 :: t144 :: t145 :: t146 :: t147 :: t148 :: t149 :: t150 :: t151 :: t152 :: t153 :: t154 :: t155 :: t156 :: t157 :: t158 :: t159 :: t160 :: t161 :: t162 :: t163 :: t164 :: t165 :: t166 :: t167 :: t168 :: t169 :: t170 :: t171 :: t172 :: t173 :: t174 :: t175 :: t176 :: t177 :: t178 :: t179 :: t180 :: t181 :: t182 :: t183 :: t184 :: t185 :: t186 :: t187 :: t188 :: t189 :: t190 :: t191 :: t192 :: t193 :: t194 :: t195 :: t196 :: t197 :: t198 :: t199 :: t200 :: t201 :: t202 :: t203 :: t204 :: t205 :: t206 :: t207 :: t208 :: t209 :: t210 :: t211 :: t212 :: t213 :: t214 :: t215 :: t216 :: t217 :: t218 :: t219 :: t220 :: t221 :: t222 :: t223 :: t224 :: t225 :: t226 :: t227 :: t228 :: t229 :: t230 :: t231 :: t232 :: t233 :: t234 :: t235 :: t236 :: t237 :: .agg #[.string nm0, .int .i64 st, .slice A0 bs0.length c0, .slice B0 gs0.length d0, .string nm1, .int .i64 st, .slice A1 bs1.length c1, .slice B1 gs1.length d1, .string nm2, .int .i64 st, .slice A2 bs2.length c2, .slice B2 gs2.length d2] :: .int .i64 0 :: t240 :: t241 :: t242 :: t243 :: t244 :: t245 :: t246 :: t247 :: t248 :: t249 :: t250 :: t251 :: t252 :: t253 :: t254 :: t255 :: t256 :: t257 :: t258 :: t259 :: t260 :: t261 :: t262 :: t263 :: t264 :: t265 :: t266 :: t267 :: t268 :: t269 :: t270 :: t271 :: t272 :: t273 :: t274 :: t275 :: t276 :: t277 :: t278 :: t279 :: t280 :: t281 :: t282 :: t283 :: t284 :: t285 :: t286 :: t287 :: t288 :: t289 :: t290 :: t291 :: t292 :: t293 :: t294 :: t295 :: t296 :: t297 :: t298 :: t299 :: t300 :: t301 :: t302 :: t303 :: t304 :: t305 :: t306 :: t307 :: t308 :: t309 :: t310 :: t311 :: t312 :: t313 :: t314 :: t315 :: t316 :: t317 :: t318 :: t319 :: t320 :: t321 :: t322 :: t323 :: t324 :: t325 :: t326 :: t327 :: t328 :: t329 :: t330 :: t331 :: t332 :: t333 :: t334 :: t335 :: t336 :: t337 :: t338 :: t339 :: t340 :: t341 :: t342 :: t343 :: t344 :: t345 :: t346 :: t347 :: t348 :: t349 :: t350 :: t351 :: t352 :: t353 :: t354 :: t355 :: t356 :: t357 :: t358 :: t359 :: t360 :: t361 :: t362 :: t363 :: t364 :: t365 :: t366 :: t367 :: t368 :: t369 :: t370 :: t371 :: t372 :: t373 :: t374 :: t375 :: t376 :: []), []⟩ w := by
  conv => arg 2; arg 1; whnf
  have HX := hd hexit
  clear hexit
  go_loopw [22, 23, 24, 239] (fun s22 s23 s24 s239 wr => ∃ k lo hi : Nat, k ≤ 3 ∧ s239 = .int .i64 k ∧ s22 = .int .i64 (rSk (f3 bs0 bs1 bs2) (f3 gs0 gs1 gs2) i k).length ∧ s23 = .float .f32 lo ∧ s24 = .float .f32 hi ∧ Hid (Bnd (f3 bs0 bs1 bs2) (f3 gs0 gs1 gs2) i k lo hi) ∧ Hid (Below W.heap.size W wr)) (fun _ _ _ s239 _ => 3 - (intOf s239).toNat)
  case atStart => exact ⟨0, 0, 0, by omega, rfl, rfl, rfl, rfl, hd ⟨by decide +kernel, by decide +kernel, fun h => absurd h (by simp [rSk])⟩, HJ0⟩
  case round =>
    obtain ⟨k, lo, hi, hk, rfl, rfl, rfl, rfl, HBN, HJ⟩ := hrel
    have hin : (i : Int) < (n : Int) := by have := HN.out; omega
    obtain ⟨q, hq⟩ : ∃ q, q = (rSk (f3 bs0 bs1 bs2) (f3 gs0 gs1 gs2) i k).length := ⟨_, rfl⟩
    have hq3 := rSk_len (f3 bs0 bs1 bs2) (f3 gs0 gs1 gs2) i k
    rw [← hq] at hq3 ⊢
    have HQ := hd hq
    clear hq
    by_cases hk3 : k < 3
    · rcases (show k = 0 ∨ k = 1 ∨ k = 2 by omega) with rfl | rfl | rfl
      · clear hk hk3
        have hix := idx3m0
        have HJ2 := hd (HJ.out.alloc HJ.out.size (Obj.cells #[.string nm0, .int .i64 st, .slice A0 bs0.length c0, .slice B0 gs0.length d0] 25))
        go_wp2_with fail
        refine (has_any (.slice B0 gs0.length d0) gs0 (i : Int) _ ((HG0.out.below HJ2.out (Nat.le_refl _)).mono HJ2.out.size)).mono ?_
        rintro e w2 ⟨rfl, rfl⟩
        cases hg : hasL gs0 (i : Int)
        · have HGG := hd (show hasL ((f3 gs0 gs1 gs2) 0) (i : Int) = false from hg)
          clear hg
          obtain ⟨xb, xo, rfl, hx0⟩ := rdLm HL0.out rfl HJ.out (show i < bs0.length by have := HN.out; omega)
          have hin2 : (i : Int) < (bs0.length : Int) := by have := HN.out; omega
          have hxl := World.block_lt_of_cell? _ _ hx0
          obtain ⟨x, hx⟩ : ∃ x, x = bs0.getD i 0 := ⟨_, rfl⟩
          rw [← hx] at hx0
          have HXX := hd (show x = ((f3 bs0 bs1 bs2) 0).getD i 0 ∧ chkLev x = 0 from ⟨hx, by rw [hx]; exact HV.out.1⟩)
          clear hx
          by_cases hq0 : q = 0
          · subst hq0
            have HBN2 := hd (bnd_rec HBN.out HGG.out HXX.out.1 HXX.out.2 x x (by rw [if_pos (.inl HQ.out.symm)]) (by rw [if_pos (.inl HQ.out.symm)]))
            go_wp2
            go_roundw
            case rel => exact ⟨0 + 1, x, x, by omega, rfl, by rw [HBN2.out.2, ← HQ.out]; simp, rfl, rfl, hd HBN2.out.1, HJ2⟩
            case measure => simp [intOf]
          · exact absurd HQ.out hq0
        · have HGG := hd (show hasL ((f3 gs0 gs1 gs2) 0) (i : Int) = true from hg)
          clear hg
          have HBN2 := hd (bnd_gap HBN.out HGG.out)
          go_wp2
          go_roundw
          case rel => exact ⟨0 + 1, lo, hi, by omega, rfl, by rw [HBN2.out.2, ← HQ.out], rfl, rfl, hd HBN2.out.1, HJ2⟩
          case measure => simp [intOf]
      · clear hk hk3
        have hix := idx3m1
        have HJ2 := hd (HJ.out.alloc HJ.out.size (Obj.cells #[.string nm1, .int .i64 st, .slice A1 bs1.length c1, .slice B1 gs1.length d1] 25))
        go_wp2_with fail
        refine (has_any (.slice B1 gs1.length d1) gs1 (i : Int) _ ((HG1.out.below HJ2.out (Nat.le_refl _)).mono HJ2.out.size)).mono ?_
        rintro e w2 ⟨rfl, rfl⟩
        cases hg : hasL gs1 (i : Int)
        · have HGG := hd (show hasL ((f3 gs0 gs1 gs2) 1) (i : Int) = false from hg)
          clear hg
          obtain ⟨xb, xo, rfl, hx0⟩ := rdLm HL1.out rfl HJ.out (show i < bs1.length by have := HN.out; omega)
          have hin2 : (i : Int) < (bs1.length : Int) := by have := HN.out; omega
          have hxl := World.block_lt_of_cell? _ _ hx0
          obtain ⟨x, hx⟩ : ∃ x, x = bs1.getD i 0 := ⟨_, rfl⟩
          rw [← hx] at hx0
          have HXX := hd (show x = ((f3 bs0 bs1 bs2) 1).getD i 0 ∧ chkLev x = 0 from ⟨hx, by rw [hx]; exact HV.out.2.1⟩)
          clear hx
          by_cases hq0 : q = 0
          · subst hq0
            have HBN2 := hd (bnd_rec HBN.out HGG.out HXX.out.1 HXX.out.2 x x (by rw [if_pos (.inl HQ.out.symm)]) (by rw [if_pos (.inl HQ.out.symm)]))
            go_wp2
            go_roundw
            case rel => exact ⟨1 + 1, x, x, by omega, rfl, by rw [HBN2.out.2, ← HQ.out]; simp, rfl, rfl, hd HBN2.out.1, HJ2⟩
            case measure => simp [intOf]
          · have hqz : ¬ (q : Int) = 0 := by omega
            have HQ0 := hd (show ¬ (rSk (f3 bs0 bs1 bs2) (f3 gs0 gs1 gs2) i 1).length = 0 from by rw [← HQ.out]; exact hq0)
            cases hl : flt x lo
            · have hl2 : (FloatKind.f32.format.order x lo == some .lt) = false := hl
              cases hh : fgt x hi
              · have hh2 : (FloatKind.f32.format.order x hi == some .gt) = false := hh
                have HLH := hd (And.intro hl hh)
                clear hl hh
                have HBN2 := hd (bnd_rec HBN.out HGG.out HXX.out.1 HXX.out.2 lo hi (by rw [if_neg (by intro hz; rcases hz with hz | hz; exact HQ0.out hz; rw [HLH.out.1] at hz; cases hz)]) (by rw [if_neg (by intro hz; rcases hz with hz | hz; exact HQ0.out hz; rw [HLH.out.2] at hz; cases hz)]))
                go_wp2
                go_roundw
                case rel => exact ⟨1 + 1, lo, hi, by omega, rfl, by rw [HBN2.out.2, ← HQ.out]; simp, rfl, rfl, hd HBN2.out.1, HJ2⟩
                case measure => simp [intOf]
              · have hh2 : (FloatKind.f32.format.order x hi == some .gt) = true := hh
                have HLH := hd (And.intro hl hh)
                clear hl hh
                have HBN2 := hd (bnd_rec HBN.out HGG.out HXX.out.1 HXX.out.2 lo x (by rw [if_neg (by intro hz; rcases hz with hz | hz; exact HQ0.out hz; rw [HLH.out.1] at hz; cases hz)]) (by rw [if_pos (.inr HLH.out.2)]))
                go_wp2
                go_roundw
                case rel => exact ⟨1 + 1, lo, x, by omega, rfl, by rw [HBN2.out.2, ← HQ.out]; simp, rfl, rfl, hd HBN2.out.1, HJ2⟩
                case measure => simp [intOf]
            · have hl2 : (FloatKind.f32.format.order x lo == some .lt) = true := hl
              cases hh : fgt x hi
              · have hh2 : (FloatKind.f32.format.order x hi == some .gt) = false := hh
                have HLH := hd (And.intro hl hh)
                clear hl hh
                have HBN2 := hd (bnd_rec HBN.out HGG.out HXX.out.1 HXX.out.2 x hi (by rw [if_pos (.inr HLH.out.1)]) (by rw [if_neg (by intro hz; rcases hz with hz | hz; exact HQ0.out hz; rw [HLH.out.2] at hz; cases hz)]))
                go_wp2
                go_roundw
                case rel => exact ⟨1 + 1, x, hi, by omega, rfl, by rw [HBN2.out.2, ← HQ.out]; simp, rfl, rfl, hd HBN2.out.1, HJ2⟩
                case measure => simp [intOf]
              · have hh2 : (FloatKind.f32.format.order x hi == some .gt) = true := hh
                have HLH := hd (And.intro hl hh)
                clear hl hh
                have HBN2 := hd (bnd_rec HBN.out HGG.out HXX.out.1 HXX.out.2 x x (by rw [if_pos (.inr HLH.out.1)]) (by rw [if_pos (.inr HLH.out.2)]))
                go_wp2
                go_roundw
                case rel => exact ⟨1 + 1, x, x, by omega, rfl, by rw [HBN2.out.2, ← HQ.out]; simp, rfl, rfl, hd HBN2.out.1, HJ2⟩
                case measure => simp [intOf]
        · have HGG := hd (show hasL ((f3 gs0 gs1 gs2) 1) (i : Int) = true from hg)
          clear hg
          have HBN2 := hd (bnd_gap HBN.out HGG.out)
          go_wp2
          go_roundw
          case rel => exact ⟨1 + 1, lo, hi, by omega, rfl, by rw [HBN2.out.2, ← HQ.out], rfl, rfl, hd HBN2.out.1, HJ2⟩
          case measure => simp [intOf]
      · clear hk hk3
        have hix := idx3m2
        have HJ2 := hd (HJ.out.alloc HJ.out.size (Obj.cells #[.string nm2, .int .i64 st, .slice A2 bs2.length c2, .slice B2 gs2.length d2] 25))
        go_wp2_with fail
        refine (has_any (.slice B2 gs2.length d2) gs2 (i : Int) _ ((HG2.out.below HJ2.out (Nat.le_refl _)).mono HJ2.out.size)).mono ?_
        rintro e w2 ⟨rfl, rfl⟩
        cases hg : hasL gs2 (i : Int)
        · have HGG := hd (show hasL ((f3 gs0 gs1 gs2) 2) (i : Int) = false from hg)
          clear hg
          obtain ⟨xb, xo, rfl, hx0⟩ := rdLm HL2.out rfl HJ.out (show i < bs2.length by have := HN.out; omega)
          have hin2 : (i : Int) < (bs2.length : Int) := by have := HN.out; omega
          have hxl := World.block_lt_of_cell? _ _ hx0
          obtain ⟨x, hx⟩ : ∃ x, x = bs2.getD i 0 := ⟨_, rfl⟩
          rw [← hx] at hx0
          have HXX := hd (show x = ((f3 bs0 bs1 bs2) 2).getD i 0 ∧ chkLev x = 0 from ⟨hx, by rw [hx]; exact HV.out.2.2⟩)
          clear hx
          by_cases hq0 : q = 0
          · subst hq0
            have HBN2 := hd (bnd_rec HBN.out HGG.out HXX.out.1 HXX.out.2 x x (by rw [if_pos (.inl HQ.out.symm)]) (by rw [if_pos (.inl HQ.out.symm)]))
            go_wp2
            go_roundw
            case rel => exact ⟨2 + 1, x, x, by omega, rfl, by rw [HBN2.out.2, ← HQ.out]; simp, rfl, rfl, hd HBN2.out.1, HJ2⟩
            case measure => simp [intOf]
          · have hqz : ¬ (q : Int) = 0 := by omega
            have HQ0 := hd (show ¬ (rSk (f3 bs0 bs1 bs2) (f3 gs0 gs1 gs2) i 2).length = 0 from by rw [← HQ.out]; exact hq0)
            cases hl : flt x lo
            · have hl2 : (FloatKind.f32.format.order x lo == some .lt) = false := hl
              cases hh : fgt x hi
              · have hh2 : (FloatKind.f32.format.order x hi == some .gt) = false := hh
                have HLH := hd (And.intro hl hh)
                clear hl hh
                have HBN2 := hd (bnd_rec HBN.out HGG.out HXX.out.1 HXX.out.2 lo hi (by rw [if_neg (by intro hz; rcases hz with hz | hz; exact HQ0.out hz; rw [HLH.out.1] at hz; cases hz)]) (by rw [if_neg (by intro hz; rcases hz with hz | hz; exact HQ0.out hz; rw [HLH.out.2] at hz; cases hz)]))
                go_wp2
                go_roundw
                case rel => exact ⟨2 + 1, lo, hi, by omega, rfl, by rw [HBN2.out.2, ← HQ.out]; simp, rfl, rfl, hd HBN2.out.1, HJ2⟩
                case measure => simp [intOf]
              · have hh2 : (FloatKind.f32.format.order x hi == some .gt) = true := hh
                have HLH := hd (And.intro hl hh)
                clear hl hh
                have HBN2 := hd (bnd_rec HBN.out HGG.out HXX.out.1 HXX.out.2 lo x (by rw [if_neg (by intro hz; rcases hz with hz | hz; exact HQ0.out hz; rw [HLH.out.1] at hz; cases hz)]) (by rw [if_pos (.inr HLH.out.2)]))
                go_wp2
                go_roundw
                case rel => exact ⟨2 + 1, lo, x, by omega, rfl, by rw [HBN2.out.2, ← HQ.out]; simp, rfl, rfl, hd HBN2.out.1, HJ2⟩
                case measure => simp [intOf]
            · have hl2 : (FloatKind.f32.format.order x lo == some .lt) = true := hl
              cases hh : fgt x hi
              · have hh2 : (FloatKind.f32.format.order x hi == some .gt) = false := hh
                have HLH := hd (And.intro hl hh)
                clear hl hh
                have HBN2 := hd (bnd_rec HBN.out HGG.out HXX.out.1 HXX.out.2 x hi (by rw [if_pos (.inr HLH.out.1)]) (by rw [if_neg (by intro hz; rcases hz with hz | hz; exact HQ0.out hz; rw [HLH.out.2] at hz; cases hz)]))
                go_wp2
                go_roundw
                case rel => exact ⟨2 + 1, x, hi, by omega, rfl, by rw [HBN2.out.2, ← HQ.out]; simp, rfl, rfl, hd HBN2.out.1, HJ2⟩
                case measure => simp [intOf]
              · have hh2 : (FloatKind.f32.format.order x hi == some .gt) = true := hh
                have HLH := hd (And.intro hl hh)
                clear hl hh
                have HBN2 := hd (bnd_rec HBN.out HGG.out HXX.out.1 HXX.out.2 x x (by rw [if_pos (.inr HLH.out.1)]) (by rw [if_pos (.inr HLH.out.2)]))
                go_wp2
                go_roundw
                case rel => exact ⟨2 + 1, x, x, by omega, rfl, by rw [HBN2.out.2, ← HQ.out]; simp, rfl, rfl, hd HBN2.out.1, HJ2⟩
                case measure => simp [intOf]
        · have HGG := hd (show hasL ((f3 gs0 gs1 gs2) 2) (i : Int) = true from hg)
          clear hg
          have HBN2 := hd (bnd_gap HBN.out HGG.out)
          go_wp2
          go_roundw
          case rel => exact ⟨2 + 1, lo, hi, by omega, rfl, by rw [HBN2.out.2, ← HQ.out], rfl, rfl, hd HBN2.out.1, HJ2⟩
          case measure => simp [intOf]
    · obtain rfl : k = 3 := by omega
      have hkk : ¬ ((3 : Nat) : Int) < 3 := by omega
      rw [HQ.out]
      go_wp2
      exact HX.out _ _ _ _ _ _ _ _ _ _ _ _ _ _ _ _ _ _ _ _ _ _ _ _ _ _ _ _ _ _ _ _ _ _ _ _ _ _ _ _ _ _ _ lo hi _ HBN.out HJ.out
end Go.Proofs.YtibhjdmndlelaaaGreatDoor
