/-
  The region of TopSkipperRecords that makes a part of the cleaned record, for both parts. Conditions: written at each.
-/
import Derived.Test.YtkgkpcmokmhakaaGreatDoorJ1
namespace Go.Proofs.YtkgkpcmokmhakaaGreatDoor
open Go.RowKit
attribute [local go_sem] Oper.semAt_some

theorem cut_newsJ {W : World} {g n c a b q B : Nat} {bs : List Nat} (h : Rd W B (.slice (some ⟨g, 0, none⟩) n c) n (flc bs)) (hl : bs.length = n) (hab : a ≤ b) (hb : b ≤ n) (hq : a < b → q = a) {X : World} (hX : Below B W X) : ∀ ad, (some ⟨g, q, none⟩ : Option Addr) = some ad → ∀ j u, (flc ((bs.take b).drop a))[j]? = some u → X.cell? (ad.add j) = some u := by
  intro ad he j u hu
  injection he with he
  subst he
  have hj := (List.getElem?_eq_some_iff.1 hu).1
  have hlen : (flc ((bs.take b).drop a)).length = b - a := by simp [flc]; omega
  rw [hlen] at hj
  obtain ⟨A', c', e', -, -, hx⟩ := h
  cases e'
  obtain ⟨b', o, e, hbb, hc⟩ := hx (by omega)
  cases e
  have e2 : (⟨g, q, none⟩ : Addr).add j = ⟨g, q + j, none⟩ := by unfold Addr.add; split <;> simp_all
  rw [e2, hq (by omega)]
  have h1 := hc (a + j) (by simp [flc, hl]; omega)
  rw [Nat.zero_add] at h1
  refine (hX.cell (p := ⟨g, a + j, none⟩) hbb).trans (h1.trans ?_)
  rw [← hu]
  simp only [flc, List.getElem?_map, List.getElem?_drop, List.getElem?_take]
  rw [if_pos (by omega)]
theorem cut_nilJ {X : World} {A : Option Addr} {bs : List Nat} {a b : Nat} (h : b ≤ a) : ∀ ad, A = some ad → ∀ j u, (flc ((bs.take b).drop a))[j]? = some u → X.cell? (ad.add j) = some u := by
  intro ad _ j u hu
  have hj := (List.getElem?_eq_some_iff.1 hu).1
  have hlen : (flc ((bs.take b).drop a)).length ≤ b - a := by simp [flc]; omega
  omega
theorem cut_lenJ {bs : List Nat} {a b n : Nat} (hl : bs.length = n) (hb : b ≤ n) : (flc ((bs.take b).drop a)).length = (b - a) * 1 := by simp [flc]; omega

set_option maxRecDepth 1000000 in
set_option maxHeartbeats 16000000 in
theorem rec_r28_0 (nm : ByteArray) (st : Int) (AC : Option Addr) (GD p0 p1 p2 p3 p4 p5 p6 p7 : Value) (n cC C X P a b : Nat) (CB : List Nat) (V : World) (Q0 : Exit → Act → World → Prop)
    (HC : Hid (V.heap[C]? = some (.cells #[(.string nm), (.int .i64 st), (.slice AC n cC), GD] 35 (0, 0)))) (HX : Hid (V.heap[X]? = some (.cells #[.int .i64 a, .int .i64 b] 47 (0, 0)))) (HP : Hid (V.heap[P]? = some (.cells #[p0, p1, p2, p3, p4, p5, p6, p7] 46 (0, 0))))
    (HL : Hid (Rd V V.heap.size (.slice AC n cC) n (flc CB))) (HLV : Hid ((AC = none ∧ n = 0 ∧ cC = 0) ∨ ∃ g, AC = some ⟨g, 0, none⟩)) (HN : Hid (a ≤ b ∧ b ≤ n ∧ n ≤ cC ∧ CB.length = n ∧ n ≤ 100000 ∧ 0 ≤ st ∧ st ≤ 100000))
    {t0 t1 t2 t3 t4 t5 t6 t7 t8 t9 t11 t12 t13 t14 t15 t16 t17 t18 t19 t23 t24 t25 t26 t27 t28 t29 t30 t31 t32 t33 t34 t35 t36 t37 t38 t39 t40 t41 t42 t43 t44 t45 t46 t47 t48 t49 t50 t51 t52 t53 t54 t55 t56 t57 t58 t59 t60 t61 t62 t63 t64 t65 t66 t67 t68 t69 t70 t71 t72 t73 t74 t75 t76 t77 t78 t79 t80 t81 t82 t83 t84 t85 t86 t87 t88 t89 t90 t91 t92 t93 t94 t95 t96 t97 t98 t99 t100 t101 t102 t103 t104 t105 t106 t107 t108 t109 t110 t111 t112 t113 t114 t115 t116 t117 t118 t119 t120 t121 t122 t123 t124 t125 t126 t127 t128 t129 t130 t131 t132 t133 t134 t135 t136 t137 t138 t139 t140 t141 t142 t143 t144 t145 t146 t147 t148 t149 t150 t151 t152 t153 t154 t155 t156 t157 t158 t159 t160 t161 t162 t163 t164 t165 t166 t167 t168 t169 t170 t171 t172 t173 t174 t175 t176 t177 t178 t179 t180 t181 t182 t183 t184 t185 t186 t187 t188 t189 t190 t191 t192 t193 t194 t195 t196 t197 t198 t199 t200 t201 t202 t203 t204 t205 t206 t207 t208 t209 t210 t211 t212 t213 t214 t215 t216 t217 t218 t219 t220 t221 t222 t223 t224 t225 t226 t227 t228 t229 t230 t231 t232 t233 t234 t235 t236 t237 t238 t239 t240 t241 t242 t243 t244 t245 t246 t247 t248 t249 t250 t251 t252 t253 t254 t255 t256 t257 t258 t259 t260 t261 t262 t263 t264 t265 t266 t267 t268 t269 t270 t271 t272 t273 t274 t275 t276 t277 t278 t279 t280 t281 t282 t283 t284 t285 t286 t287 t288 t289 t290 t291 t292 t293 t294 t295 t296 t297 t298 t299 t300 t301 t302 t303 t304 t305 t306 t307 t308 t309 t310 t311 t312 t313 t314 t315 t316 t317 t318 t319 t320 t321 t322 t323 t324 t325 t326 t327 t328 t329 t330 t331 t332 t333 t334 t335 t336 t337 t338 t339 t340 t341 t342 t343 t344 t345 t346 t347 t348 t349 t350 t351 t352 t353 : Value}
    (hexit : ∀ (u177 u178 u179 u180 u181 u182 u183 u184 u185 u186 u187 u188 u189 u190 u191 u192 u193 u194 u195 : Value) (w' : World), (∃ A1 c1, w'.heap[P]? = some (.cells #[.string nm, .int .i64 (st + (a : Int)), .slice A1 (b - a) c1, .slice none 0 0, p4, p5, p6, p7] 46 (0, 0)) ∧ w'.ownsRow V.heap.size 60 1 (.slice A1 (b - a) c1) (b - a) (flc ((CB.take b).drop a)) ∧ Below P V w' ∧ (∀ q, q < V.heap.size → q ≠ P → w'.heap[q]? = V.heap[q]?) ∧ V.heap.size ≤ w'.heap.size) → Q0 .normal ⟨List.toArray (t0 :: t1 :: t2 :: t3 :: t4 :: t5 :: t6 :: t7 :: t8 :: t9 :: .pointer (some ⟨C, 0, none⟩) :: t11 :: t12 :: t13 :: t14 :: t15 :: t16 :: t17 :: t18 :: t19 :: .pointer (some ⟨P, 0, none⟩) :: .int .i64 0 :: .pointer (some ⟨X, 0, none⟩) :: t23 :: t24 :: t25 :: t26 :: t27 :: t28 :: t29 :: t30 :: t31 :: t32 :: t33 :: t34 :: t35 :: t36 :: t37 :: t38 :: t39 :: t40 :: t41 :: t42 :: t43 :: t44 :: t45 :: t46 :: t47 :: t48 :: t49 :: t50 :: t51 :: t52 :: t53 :: t54 :: t55 :: t56 :: t57 :: t58 :: t59 :: t60 :: t61 :: t62 :: t63 :: t64 :: t65 :: t66 :: t67 :: t68 :: t69 :: t70 :: t71 :: t72 :: t73 :: t74 :: t75 :: t76 :: t77 :: t78 :: t79 :: t80 :: t81 :: t82 :: t83 :: t84 :: t85 :: t86 :: t87 :: t88 :: t89 :: t90 :: t91 :: t92 :: t93 :: t94 :: t95 :: t96 :: t97 :: t98 :: t99 :: t100 :: t101 :: t102 :: t103 :: t104 :: t105 :: t106 :: t107 :: t108 :: t109 :: t110 :: t111 :: t112 :: t113 :: t114 :: t115 :: t116 :: t117 :: t118 :: t119 :: t120 :: t121 :: t122 :: t123 :: t124 :: t125 :: t126 :: t127 :: t128 :: t129 :: t130 :: t131 :: t132 :: t133 :: t134 :: t135 :: t136 :: t137 :: t138 :: t139 :: t140 :: t141 :: t142 :: t143 :: t144 :: t145 :: t146 :: t147 :: t148 :: t149 :: t150 :: t151 :: t152 :: t153 :: t154 :: t155 :: t156 :: t157 :: t158 :: t159 :: t160 :: t161 :: t162 :: t163 :: t164 :: t165 :: t166 :: t167 :: t168 :: t169 :: t170 :: t171 :: t172 :: t173 :: t174 :: t175 :: t176 :: u177 :: u178 :: u179 :: u180 :: u181 :: u182 :: u183 :: u184 :: u185 :: u186 :: u187 :: u188 :: u189 :: u190 :: u191 :: u192 :: u193 :: u194 :: u195 :: t196 :: t197 :: t198 :: t199 :: t200 :: t201 :: t202 :: t203 :: t204 :: t205 :: t206 :: t207 :: t208 :: t209 :: t210 :: t211 :: t212 :: t213 :: t214 :: t215 :: t216 :: t217 :: t218 :: t219 :: t220 :: t221 :: t222 :: t223 :: t224 :: t225 :: t226 :: t227 :: t228 :: t229 :: t230 :: t231 :: t232 :: t233 :: t234 :: t235 :: t236 :: t237 :: t238 :: t239 :: t240 :: t241 :: t242 :: t243 :: t244 :: t245 :: t246 :: t247 :: t248 :: t249 :: t250 :: t251 :: t252 :: t253 :: t254 :: t255 :: t256 :: t257 :: t258 :: t259 :: t260 :: t261 :: t262 :: t263 :: t264 :: t265 :: t266 :: t267 :: t268 :: t269 :: t270 :: t271 :: t272 :: t273 :: t274 :: t275 :: t276 :: t277 :: t278 :: t279 :: t280 :: t281 :: t282 :: t283 :: t284 :: t285 :: t286 :: t287 :: t288 :: t289 :: t290 :: t291 :: t292 :: t293 :: t294 :: t295 :: t296 :: t297 :: t298 :: t299 :: t300 :: t301 :: t302 :: t303 :: t304 :: t305 :: t306 :: t307 :: t308 :: t309 :: t310 :: t311 :: t312 :: t313 :: t314 :: t315 :: t316 :: t317 :: t318 :: t319 :: t320 :: t321 :: t322 :: t323 :: t324 :: t325 :: t326 :: t327 :: t328 :: t329 :: t330 :: t331 :: t332 :: t333 :: t334 :: t335 :: t336 :: t337 :: t338 :: t339 :: t340 :: t341 :: t342 :: t343 :: t344 :: t345 :: t346 :: t347 :: t348 :: t349 :: t350 :: t351 :: t352 :: t353 :: []), []⟩ w') :
    Code.wp Tryz.prog jR28 Q0 ⟨List.toArray (t0 :: t1 :: t2 :: t3 :: t4 :: t5 :: t6 :: t7 :: t8 :: t9 :: .pointer (some ⟨C, 0, none⟩) :: t11 :: t12 :: t13 :: t14 :: t15 :: t16 :: t17 :: t18 :: t19 :: .pointer (some ⟨P, 0, none⟩) :: .int .i64 0 :: .pointer (some ⟨X, 0, none⟩) :: t23 :: t24 :: t25 :: t26 :: t27 :: t28 :: t29 :: t30 :: t31 :: t32 :: t33 :: t34 :: t35 :: t36 :: t37 :: t38 :: t39 :: t40 :: t41 :: t42 :: t43 :: t44 :: t45 :: t46 :: t47 :: t48 :: t49 :: t50 :: t51 :: t52 :: t53 :: t54 :: t55 :: t56 :: t57 :: t58 :: t59 :: t60 :: t61 :: t62 :: t63 :: t64 :: t65 :: t66 :: t67 :: t68 :: t69 :: t70 :: t71 :: t72 :: t73 :: t74 :: t75 :: t76 :: t77 :: t78 :: t79 :: t80 :: t81 :: t82 :: t83 :: t84 :: t85 :: t86 :: t87 :: t88 :: t89 :: t90 :: t91 :: t92 :: t93 :: t94 :: t95 :: t96 :: t97 :: t98 :: t99 :: t100 :: t101 :: t102 :: t103 :: t104 :: t105 :: t106 :: t107 :: t108 :: t109 :: t110 :: t111 :: t112 :: t113 :: t114 :: t115 :: t116 :: t117 :: t118 :: t119 :: t120 :: t121 :: t122 :: t123 :: t124 :: t125 :: t126 :: t127 :: t128 :: t129 :: t130 :: t131 :: t132 :: t133 :: t134 :: t135 :: t136 :: t137 :: t138 :: t139 :: t140 :: t141 :: t142 :: t143 :: t144 :: t145 :: t146 :: t147 :: t148 :: t149 :: t150 :: t151 :: t152 :: t153 :: t154 :: t155 :: t156 :: t157 :: t158 :: t159 :: t160 :: t161 :: t162 :: t163 :: t164 :: t165 :: t166 :: t167 :: t168 :: t169 :: t170 :: t171 :: t172 :: t173 :: t174 :: t175 :: t176 :: t177 :: t178 :: t179 :: t180 :: t181 :: t182 :: t183 :: t184 :: t185 :: t186 :: t187 :: t188 :: t189 :: t190 :: t191 :: t192 :: t193 :: t194 :: t195 :: t196 :: t197 :: t198 :: t199 :: t200 :: t201 :: t202 :: t203 :: t204 :: t205 :: t206 :: t207 :: t208 :: t209 :: t210 :: t211 :: t212 :: t213 :: t214 :: t215 :: t216 :: t217 :: t218 :: t219 :: t220 :: t221 :: t222 :: t223 :: t224 :: t225 :: t226 :: t227 :: t228 :: t229 :: t230 :: t231 :: t232 :: t233 :: t234 :: t235 :: t236 :: t237 :: t238 :: t239 :: t240 :: t241 :: t242 :: t243 :: t244 :: t245 :: t246 :: t247 :: t248 :: t249 :: t250 :: t251 :: t252 :: t253 :: t254 :: t255 :: t256 :: t257 :: t258 :: t259 :: t260 :: t261 :: t262 :: t263 :: t264 :: t265 :: t266 :: t267 :: t268 :: t269 :: t270 :: t271 :: t272 :: t273 :: t274 :: t275 :: t276 :: t277 :: t278 :: t279 :: t280 :: t281 :: t282 :: t283 :: t284 :: t285 :: t286 :: t287 :: t288 :: t289 :: t290 :: t291 :: t292 :: t293 :: t294 :: t295 :: t296 :: t297 :: t298 :: t299 :: t300 :: t301 :: t302 :: t303 :: t304 :: t305 :: t306 :: t307 :: t308 :: t309 :: t310 :: t311 :: t312 :: t313 :: t314 :: t315 :: t316 :: t317 :: t318 :: t319 :: t320 :: t321 :: t322 :: t323 :: t324 :: t325 :: t326 :: t327 :: t328 :: t329 :: t330 :: t331 :: t332 :: t333 :: t334 :: t335 :: t336 :: t337 :: t338 :: t339 :: t340 :: t341 :: t342 :: t343 :: t344 :: t345 :: t346 :: t347 :: t348 :: t349 :: t350 :: t351 :: t352 :: t353 :: []), []⟩ V := by
  conv => arg 2; whnf
  have HXX := hd hexit
  clear hexit
  obtain ⟨hab, hbn, hnc, hlen, hn1, hs0, hs1⟩ := HN.out
  obtain ⟨j0, hj, hy0, hy1, hy2⟩ := info_parts floatInfo
  have HJ := hd (And.intro hj (And.intro hy0 (And.intro hy1 hy2)))
  clear hj hy0 hy1 hy2
  have k0 := blk_cell HC.out 0
  have k1 := blk_cell HC.out 1
  have k2 := blk_cell HC.out 2
  have x0 := blk_cell HX.out 0
  have x1 := blk_cell HX.out 1
  simp at k0 k1 k2 x0 x1
  have hPC : P ≠ C := fun e => by have h1 := HP.out; rw [e, HC.out] at h1; injection h1 with h1; injection h1 with h1; have := congrArg Array.size h1; simp at this
  have hPX : P ≠ X := fun e => by have h1 := HP.out; rw [e, HX.out] at h1; injection h1 with h1; injection h1 with h1; have := congrArg Array.size h1; simp at this
  have hnC : V.heap.size ≠ C := Nat.ne_of_gt (blk_lt HC.out)
  have hnC' := hnC.symm
  have hnX : V.heap.size ≠ X := Nat.ne_of_gt (blk_lt HX.out)
  have hnX' := hnX.symm
  have hnP : V.heap.size ≠ P := Nat.ne_of_gt (blk_lt HP.out)
  have hnP' := hnP.symm
  have hki : (a : Int) ≤ (b : Int) := by omega
  have hkc : (b : Int) ≤ (cC : Int) := by omega
  have hbc : b ≤ cC := by omega
  have hac : a ≤ cC := by omega
  have haI : (a : Int) ≤ (cC : Int) := by omega
  have e1 : IntKind.i64.wrap (st + (a : Int)) = st + (a : Int) := IntWalk.i64_in _ (by omega)
  have HA1 := hd (show (V.alloc (Obj.cells #[] 60)).drew.ownsRow V.heap.size 60 1 (.slice (some ⟨V.heap.size, 0, none⟩) 0 0) 0 [] from World.ownsRow.drew (World.ownsRow_lit V #[] 0 (Nat.le_refl _) (by decide) rfl))
  have H63 := hd (show 0 + (b - a) ≤ maxLen by unfold maxLen; omega)
  have HBY := hd (show (0 + (b - a)) * 4 ≤ 140737488355328 by omega)
  have HBV := hd (show Below V.heap.size V (V.alloc (Obj.cells #[] 60)).drew from ((Below.refl _ V).alloc (Nat.le_refl _) _).drew)
  have HCL := hd (cut_lenJ (a := a) (b := b) hlen hbn)
  have HSM := hd (And.intro hab (And.intro hbn hnc))
  by_cases hca : cC = a
  · have hba : b = a := by omega
    have h00 : b - a = 0 := by omega
    rw [h00] at HXX HCL H63 HBY
    clear h00
    have HNW := hd (fun (X : World) => cut_nilJ (X := X) (A := AC) (bs := CB) (a := a) (b := b) (by omega))
    go_wp2_with fail
    go_region_held3 (fun x => x.cell? ⟨C, 0, none⟩ = some (.string nm) ∧ x.cell? ⟨C, 1, none⟩ = some (.int .i64 st) ∧ x.cell? ⟨C, 2, none⟩ = some (.slice AC n cC) ∧ x.cell? ⟨X, 0, none⟩ = some (.int .i64 a) ∧ x.cell? ⟨X, 1, none⟩ = some (.int .i64 b)) (go_keep)
      (first
        | (refine step_append_opt (V.alloc (Obj.cells #[] 60)).drew (by rfl) (.tmp 185) (.tmp 192) 22 (by rfl) V.heap.size 60 j0 (.float .f32 0) 1 4 Tryz.underlying22 HJ.out.1 HJ.out.2.1 HJ.out.2.2.1 HJ.out.2.2.2 rfl (by decide) (.slice (some ⟨V.heap.size, 0, none⟩) 0 0) 0 [] (by rfl) HA1.out AC 0 0 (flc ((CB.take b).drop a)) (by rfl) HCL.out (fun e => by rcases HLV.out with h | ⟨g, h⟩; (have := HSM.out; omega); rw [h] at e; cases e) (HNW.out _) (one_flc _) H63.out HBY.out (by simp) ?_; intro v4 w4 hown4 hg4; simp only [Nat.zero_add, List.nil_append] at hown4; have HW4 := hd (HBV.out.grown hg4 (by simp) (fun kk hk => by simp [Value.ownBlock] at hk; omega)); obtain ⟨A4, c4, hv4, -⟩ := own_form hown4; subst hv4; have HO4 := hd hown4; clear hown4 hg4; have hq := (HW4.out.block _ (blk_lt HC.out)).trans HC.out; have k0 := blk_cell hq 0; have k1 := blk_cell hq 1; have k2 := blk_cell hq 2; simp at k0 k1 k2; clear hq; have hq := (HW4.out.block _ (blk_lt HX.out)).trans HX.out; have x0 := blk_cell hq 0; have x1 := blk_cell hq 1; simp at x0 x1; clear hq; have HP4 := hd ((HW4.out.block _ (blk_lt HP.out)).trans HP.out); have y0 := blk_cell HP4.out 0; have f0 := blk_frozen HP4.out 0; have y1 := blk_cell HP4.out 1; have f1 := blk_frozen HP4.out 1; have y2 := blk_cell HP4.out 2; have f2 := blk_frozen HP4.out 2; have y3 := blk_cell HP4.out 3; have f3 := blk_frozen HP4.out 3; simp at y0 y1 y2 y3))
    all_goals
      go_wp2_with fail
      have hq := setJ_blk HP4.out 0 (.string nm) (.int .i64 (st + (a : Int))) (.slice A4 0 c4) (.slice none 0 0)
      simp at hq
      refine HXX.out _ _ _ _ _ _ _ _ _ _ _ _ _ _ _ _ _ _ _ (setJ w4 P 0 (.string nm) (.int .i64 (st + (a : Int))) (.slice A4 0 c4) (.slice none 0 0)) ⟨A4, c4, hq, setJ_own HO4.out (own_box HO4.out HP4.out (by decide)), setJ_below (HW4.out.mono (Nat.le_of_lt (blk_lt HP.out))) (Nat.le_refl P) _ _ _ _, fun q' h1 h2 => (setJ_far h2.symm _ _ _ _).trans (HW4.out.block q' h1), by rw [setJ_size]; exact HW4.out.size⟩
  · have hca' : ¬ a = cC := fun e => hca e.symm
    obtain ⟨lb, rfl⟩ : ∃ g, AC = some ⟨g, 0, none⟩ := by
      rcases HLV.out with ⟨-, h1, h2⟩ | h
      · omega
      · exact h
    have HNW := hd (fun (X : World) (hX : Below V.heap.size V X) => cut_newsJ (q := a) HL.out hlen hab hbn (fun _ => rfl) hX)
    go_wp2_with fail
    go_region_held3 (fun x => x.cell? ⟨C, 0, none⟩ = some (.string nm) ∧ x.cell? ⟨C, 1, none⟩ = some (.int .i64 st) ∧ x.cell? ⟨C, 2, none⟩ = some (.slice (some ⟨lb, 0, none⟩) n cC) ∧ x.cell? ⟨X, 0, none⟩ = some (.int .i64 a) ∧ x.cell? ⟨X, 1, none⟩ = some (.int .i64 b)) (go_keep)
      (first
        | (refine step_append_opt (V.alloc (Obj.cells #[] 60)).drew (by rfl) (.tmp 185) (.tmp 192) 22 (by rfl) V.heap.size 60 j0 (.float .f32 0) 1 4 Tryz.underlying22 HJ.out.1 HJ.out.2.1 HJ.out.2.2.1 HJ.out.2.2.2 rfl (by decide) (.slice (some ⟨V.heap.size, 0, none⟩) 0 0) 0 [] (by rfl) HA1.out (some ⟨lb, a, none⟩) (b - a) (cC - a) (flc ((CB.take b).drop a)) (by rfl) HCL.out (fun e => by cases e) (HNW.out _ HBV.out) (one_flc _) H63.out HBY.out (by simp) ?_; intro v4 w4 hown4 hg4; simp only [Nat.zero_add, List.nil_append] at hown4; have HW4 := hd (HBV.out.grown hg4 (by simp) (fun kk hk => by simp [Value.ownBlock] at hk; omega)); obtain ⟨A4, c4, hv4, -⟩ := own_form hown4; subst hv4; have HO4 := hd hown4; clear hown4 hg4; have hq := (HW4.out.block _ (blk_lt HC.out)).trans HC.out; have k0 := blk_cell hq 0; have k1 := blk_cell hq 1; have k2 := blk_cell hq 2; simp at k0 k1 k2; clear hq; have hq := (HW4.out.block _ (blk_lt HX.out)).trans HX.out; have x0 := blk_cell hq 0; have x1 := blk_cell hq 1; simp at x0 x1; clear hq; have HP4 := hd ((HW4.out.block _ (blk_lt HP.out)).trans HP.out); have y0 := blk_cell HP4.out 0; have f0 := blk_frozen HP4.out 0; have y1 := blk_cell HP4.out 1; have f1 := blk_frozen HP4.out 1; have y2 := blk_cell HP4.out 2; have f2 := blk_frozen HP4.out 2; have y3 := blk_cell HP4.out 3; have f3 := blk_frozen HP4.out 3; simp at y0 y1 y2 y3))
    all_goals
      go_wp2_with fail
      have hq := setJ_blk HP4.out 0 (.string nm) (.int .i64 (st + (a : Int))) (.slice A4 (b - a) c4) (.slice none 0 0)
      simp at hq
      refine HXX.out _ _ _ _ _ _ _ _ _ _ _ _ _ _ _ _ _ _ _ (setJ w4 P 0 (.string nm) (.int .i64 (st + (a : Int))) (.slice A4 (b - a) c4) (.slice none 0 0)) ⟨A4, c4, hq, setJ_own HO4.out (own_box HO4.out HP4.out (by decide)), setJ_below (HW4.out.mono (Nat.le_of_lt (blk_lt HP.out))) (Nat.le_refl P) _ _ _ _, fun q' h1 h2 => (setJ_far h2.symm _ _ _ _).trans (HW4.out.block q' h1), by rw [setJ_size]; exact HW4.out.size⟩

set_option maxRecDepth 1000000 in
set_option maxHeartbeats 16000000 in
theorem rec_r28_1 (nm : ByteArray) (st : Int) (AC : Option Addr) (GD p0 p1 p2 p3 p4 p5 p6 p7 : Value) (n cC C X P a b : Nat) (CB : List Nat) (V : World) (Q0 : Exit → Act → World → Prop)
    (HC : Hid (V.heap[C]? = some (.cells #[(.string nm), (.int .i64 st), (.slice AC n cC), GD] 35 (0, 0)))) (HX : Hid (V.heap[X]? = some (.cells #[.int .i64 a, .int .i64 b] 47 (0, 0)))) (HP : Hid (V.heap[P]? = some (.cells #[p0, p1, p2, p3, p4, p5, p6, p7] 46 (0, 0))))
    (HL : Hid (Rd V V.heap.size (.slice AC n cC) n (flc CB))) (HLV : Hid ((AC = none ∧ n = 0 ∧ cC = 0) ∨ ∃ g, AC = some ⟨g, 0, none⟩)) (HN : Hid (a ≤ b ∧ b ≤ n ∧ n ≤ cC ∧ CB.length = n ∧ n ≤ 100000 ∧ 0 ≤ st ∧ st ≤ 100000))
    {t0 t1 t2 t3 t4 t5 t6 t7 t8 t9 t11 t12 t13 t14 t15 t16 t17 t18 t19 t23 t24 t25 t26 t27 t28 t29 t30 t31 t32 t33 t34 t35 t36 t37 t38 t39 t40 t41 t42 t43 t44 t45 t46 t47 t48 t49 t50 t51 t52 t53 t54 t55 t56 t57 t58 t59 t60 t61 t62 t63 t64 t65 t66 t67 t68 t69 t70 t71 t72 t73 t74 t75 t76 t77 t78 t79 t80 t81 t82 t83 t84 t85 t86 t87 t88 t89 t90 t91 t92 t93 t94 t95 t96 t97 t98 t99 t100 t101 t102 t103 t104 t105 t106 t107 t108 t109 t110 t111 t112 t113 t114 t115 t116 t117 t118 t119 t120 t121 t122 t123 t124 t125 t126 t127 t128 t129 t130 t131 t132 t133 t134 t135 t136 t137 t138 t139 t140 t141 t142 t143 t144 t145 t146 t147 t148 t149 t150 t151 t152 t153 t154 t155 t156 t157 t158 t159 t160 t161 t162 t163 t164 t165 t166 t167 t168 t169 t170 t171 t172 t173 t174 t175 t176 t177 t178 t179 t180 t181 t182 t183 t184 t185 t186 t187 t188 t189 t190 t191 t192 t193 t194 t195 t196 t197 t198 t199 t200 t201 t202 t203 t204 t205 t206 t207 t208 t209 t210 t211 t212 t213 t214 t215 t216 t217 t218 t219 t220 t221 t222 t223 t224 t225 t226 t227 t228 t229 t230 t231 t232 t233 t234 t235 t236 t237 t238 t239 t240 t241 t242 t243 t244 t245 t246 t247 t248 t249 t250 t251 t252 t253 t254 t255 t256 t257 t258 t259 t260 t261 t262 t263 t264 t265 t266 t267 t268 t269 t270 t271 t272 t273 t274 t275 t276 t277 t278 t279 t280 t281 t282 t283 t284 t285 t286 t287 t288 t289 t290 t291 t292 t293 t294 t295 t296 t297 t298 t299 t300 t301 t302 t303 t304 t305 t306 t307 t308 t309 t310 t311 t312 t313 t314 t315 t316 t317 t318 t319 t320 t321 t322 t323 t324 t325 t326 t327 t328 t329 t330 t331 t332 t333 t334 t335 t336 t337 t338 t339 t340 t341 t342 t343 t344 t345 t346 t347 t348 t349 t350 t351 t352 t353 : Value}
    (hexit : ∀ (u177 u178 u179 u180 u181 u182 u183 u184 u185 u186 u187 u188 u189 u190 u191 u192 u193 u194 u195 : Value) (w' : World), (∃ A1 c1, w'.heap[P]? = some (.cells #[p0, p1, p2, p3, .string nm, .int .i64 (st + (a : Int)), .slice A1 (b - a) c1, .slice none 0 0] 46 (0, 0)) ∧ w'.ownsRow V.heap.size 60 1 (.slice A1 (b - a) c1) (b - a) (flc ((CB.take b).drop a)) ∧ Below P V w' ∧ (∀ q, q < V.heap.size → q ≠ P → w'.heap[q]? = V.heap[q]?) ∧ V.heap.size ≤ w'.heap.size) → Q0 .normal ⟨List.toArray (t0 :: t1 :: t2 :: t3 :: t4 :: t5 :: t6 :: t7 :: t8 :: t9 :: .pointer (some ⟨C, 0, none⟩) :: t11 :: t12 :: t13 :: t14 :: t15 :: t16 :: t17 :: t18 :: t19 :: .pointer (some ⟨P, 0, none⟩) :: .int .i64 1 :: .pointer (some ⟨X, 0, none⟩) :: t23 :: t24 :: t25 :: t26 :: t27 :: t28 :: t29 :: t30 :: t31 :: t32 :: t33 :: t34 :: t35 :: t36 :: t37 :: t38 :: t39 :: t40 :: t41 :: t42 :: t43 :: t44 :: t45 :: t46 :: t47 :: t48 :: t49 :: t50 :: t51 :: t52 :: t53 :: t54 :: t55 :: t56 :: t57 :: t58 :: t59 :: t60 :: t61 :: t62 :: t63 :: t64 :: t65 :: t66 :: t67 :: t68 :: t69 :: t70 :: t71 :: t72 :: t73 :: t74 :: t75 :: t76 :: t77 :: t78 :: t79 :: t80 :: t81 :: t82 :: t83 :: t84 :: t85 :: t86 :: t87 :: t88 :: t89 :: t90 :: t91 :: t92 :: t93 :: t94 :: t95 :: t96 :: t97 :: t98 :: t99 :: t100 :: t101 :: t102 :: t103 :: t104 :: t105 :: t106 :: t107 :: t108 :: t109 :: t110 :: t111 :: t112 :: t113 :: t114 :: t115 :: t116 :: t117 :: t118 :: t119 :: t120 :: t121 :: t122 :: t123 :: t124 :: t125 :: t126 :: t127 :: t128 :: t129 :: t130 :: t131 :: t132 :: t133 :: t134 :: t135 :: t136 :: t137 :: t138 :: t139 :: t140 :: t141 :: t142 :: t143 :: t144 :: t145 :: t146 :: t147 :: t148 :: t149 :: t150 :: t151 :: t152 :: t153 :: t154 :: t155 :: t156 :: t157 :: t158 :: t159 :: t160 :: t161 :: t162 :: t163 :: t164 :: t165 :: t166 :: t167 :: t168 :: t169 :: t170 :: t171 :: t172 :: t173 :: t174 :: t175 :: t176 :: u177 :: u178 :: u179 :: u180 :: u181 :: u182 :: u183 :: u184 :: u185 :: u186 :: u187 :: u188 :: u189 :: u190 :: u191 :: u192 :: u193 :: u194 :: u195 :: t196 :: t197 :: t198 :: t199 :: t200 :: t201 :: t202 :: t203 :: t204 :: t205 :: t206 :: t207 :: t208 :: t209 :: t210 :: t211 :: t212 :: t213 :: t214 :: t215 :: t216 :: t217 :: t218 :: t219 :: t220 :: t221 :: t222 :: t223 :: t224 :: t225 :: t226 :: t227 :: t228 :: t229 :: t230 :: t231 :: t232 :: t233 :: t234 :: t235 :: t236 :: t237 :: t238 :: t239 :: t240 :: t241 :: t242 :: t243 :: t244 :: t245 :: t246 :: t247 :: t248 :: t249 :: t250 :: t251 :: t252 :: t253 :: t254 :: t255 :: t256 :: t257 :: t258 :: t259 :: t260 :: t261 :: t262 :: t263 :: t264 :: t265 :: t266 :: t267 :: t268 :: t269 :: t270 :: t271 :: t272 :: t273 :: t274 :: t275 :: t276 :: t277 :: t278 :: t279 :: t280 :: t281 :: t282 :: t283 :: t284 :: t285 :: t286 :: t287 :: t288 :: t289 :: t290 :: t291 :: t292 :: t293 :: t294 :: t295 :: t296 :: t297 :: t298 :: t299 :: t300 :: t301 :: t302 :: t303 :: t304 :: t305 :: t306 :: t307 :: t308 :: t309 :: t310 :: t311 :: t312 :: t313 :: t314 :: t315 :: t316 :: t317 :: t318 :: t319 :: t320 :: t321 :: t322 :: t323 :: t324 :: t325 :: t326 :: t327 :: t328 :: t329 :: t330 :: t331 :: t332 :: t333 :: t334 :: t335 :: t336 :: t337 :: t338 :: t339 :: t340 :: t341 :: t342 :: t343 :: t344 :: t345 :: t346 :: t347 :: t348 :: t349 :: t350 :: t351 :: t352 :: t353 :: []), []⟩ w') :
    Code.wp Tryz.prog jR28 Q0 ⟨List.toArray (t0 :: t1 :: t2 :: t3 :: t4 :: t5 :: t6 :: t7 :: t8 :: t9 :: .pointer (some ⟨C, 0, none⟩) :: t11 :: t12 :: t13 :: t14 :: t15 :: t16 :: t17 :: t18 :: t19 :: .pointer (some ⟨P, 0, none⟩) :: .int .i64 1 :: .pointer (some ⟨X, 0, none⟩) :: t23 :: t24 :: t25 :: t26 :: t27 :: t28 :: t29 :: t30 :: t31 :: t32 :: t33 :: t34 :: t35 :: t36 :: t37 :: t38 :: t39 :: t40 :: t41 :: t42 :: t43 :: t44 :: t45 :: t46 :: t47 :: t48 :: t49 :: t50 :: t51 :: t52 :: t53 :: t54 :: t55 :: t56 :: t57 :: t58 :: t59 :: t60 :: t61 :: t62 :: t63 :: t64 :: t65 :: t66 :: t67 :: t68 :: t69 :: t70 :: t71 :: t72 :: t73 :: t74 :: t75 :: t76 :: t77 :: t78 :: t79 :: t80 :: t81 :: t82 :: t83 :: t84 :: t85 :: t86 :: t87 :: t88 :: t89 :: t90 :: t91 :: t92 :: t93 :: t94 :: t95 :: t96 :: t97 :: t98 :: t99 :: t100 :: t101 :: t102 :: t103 :: t104 :: t105 :: t106 :: t107 :: t108 :: t109 :: t110 :: t111 :: t112 :: t113 :: t114 :: t115 :: t116 :: t117 :: t118 :: t119 :: t120 :: t121 :: t122 :: t123 :: t124 :: t125 :: t126 :: t127 :: t128 :: t129 :: t130 :: t131 :: t132 :: t133 :: t134 :: t135 :: t136 :: t137 :: t138 :: t139 :: t140 :: t141 :: t142 :: t143 :: t144 :: t145 :: t146 :: t147 :: t148 :: t149 :: t150 :: t151 :: t152 :: t153 :: t154 :: t155 :: t156 :: t157 :: t158 :: t159 :: t160 :: t161 :: t162 :: t163 :: t164 :: t165 :: t166 :: t167 :: t168 :: t169 :: t170 :: t171 :: t172 :: t173 :: t174 :: t175 :: t176 :: t177 :: t178 :: t179 :: t180 :: t181 :: t182 :: t183 :: t184 :: t185 :: t186 :: t187 :: t188 :: t189 :: t190 :: t191 :: t192 :: t193 :: t194 :: t195 :: t196 :: t197 :: t198 :: t199 :: t200 :: t201 :: t202 :: t203 :: t204 :: t205 :: t206 :: t207 :: t208 :: t209 :: t210 :: t211 :: t212 :: t213 :: t214 :: t215 :: t216 :: t217 :: t218 :: t219 :: t220 :: t221 :: t222 :: t223 :: t224 :: t225 :: t226 :: t227 :: t228 :: t229 :: t230 :: t231 :: t232 :: t233 :: t234 :: t235 :: t236 :: t237 :: t238 :: t239 :: t240 :: t241 :: t242 :: t243 :: t244 :: t245 :: t246 :: t247 :: t248 :: t249 :: t250 :: t251 :: t252 :: t253 :: t254 :: t255 :: t256 :: t257 :: t258 :: t259 :: t260 :: t261 :: t262 :: t263 :: t264 :: t265 :: t266 :: t267 :: t268 :: t269 :: t270 :: t271 :: t272 :: t273 :: t274 :: t275 :: t276 :: t277 :: t278 :: t279 :: t280 :: t281 :: t282 :: t283 :: t284 :: t285 :: t286 :: t287 :: t288 :: t289 :: t290 :: t291 :: t292 :: t293 :: t294 :: t295 :: t296 :: t297 :: t298 :: t299 :: t300 :: t301 :: t302 :: t303 :: t304 :: t305 :: t306 :: t307 :: t308 :: t309 :: t310 :: t311 :: t312 :: t313 :: t314 :: t315 :: t316 :: t317 :: t318 :: t319 :: t320 :: t321 :: t322 :: t323 :: t324 :: t325 :: t326 :: t327 :: t328 :: t329 :: t330 :: t331 :: t332 :: t333 :: t334 :: t335 :: t336 :: t337 :: t338 :: t339 :: t340 :: t341 :: t342 :: t343 :: t344 :: t345 :: t346 :: t347 :: t348 :: t349 :: t350 :: t351 :: t352 :: t353 :: []), []⟩ V := by
  conv => arg 2; whnf
  have HXX := hd hexit
  clear hexit
  obtain ⟨hab, hbn, hnc, hlen, hn1, hs0, hs1⟩ := HN.out
  obtain ⟨j0, hj, hy0, hy1, hy2⟩ := info_parts floatInfo
  have HJ := hd (And.intro hj (And.intro hy0 (And.intro hy1 hy2)))
  clear hj hy0 hy1 hy2
  have k0 := blk_cell HC.out 0
  have k1 := blk_cell HC.out 1
  have k2 := blk_cell HC.out 2
  have x0 := blk_cell HX.out 0
  have x1 := blk_cell HX.out 1
  simp at k0 k1 k2 x0 x1
  have hPC : P ≠ C := fun e => by have h1 := HP.out; rw [e, HC.out] at h1; injection h1 with h1; injection h1 with h1; have := congrArg Array.size h1; simp at this
  have hPX : P ≠ X := fun e => by have h1 := HP.out; rw [e, HX.out] at h1; injection h1 with h1; injection h1 with h1; have := congrArg Array.size h1; simp at this
  have hnC : V.heap.size ≠ C := Nat.ne_of_gt (blk_lt HC.out)
  have hnC' := hnC.symm
  have hnX : V.heap.size ≠ X := Nat.ne_of_gt (blk_lt HX.out)
  have hnX' := hnX.symm
  have hnP : V.heap.size ≠ P := Nat.ne_of_gt (blk_lt HP.out)
  have hnP' := hnP.symm
  have hki : (a : Int) ≤ (b : Int) := by omega
  have hkc : (b : Int) ≤ (cC : Int) := by omega
  have hbc : b ≤ cC := by omega
  have hac : a ≤ cC := by omega
  have haI : (a : Int) ≤ (cC : Int) := by omega
  have e1 : IntKind.i64.wrap (st + (a : Int)) = st + (a : Int) := IntWalk.i64_in _ (by omega)
  have HA1 := hd (show (V.alloc (Obj.cells #[] 60)).drew.ownsRow V.heap.size 60 1 (.slice (some ⟨V.heap.size, 0, none⟩) 0 0) 0 [] from World.ownsRow.drew (World.ownsRow_lit V #[] 0 (Nat.le_refl _) (by decide) rfl))
  have H63 := hd (show 0 + (b - a) ≤ maxLen by unfold maxLen; omega)
  have HBY := hd (show (0 + (b - a)) * 4 ≤ 140737488355328 by omega)
  have HBV := hd (show Below V.heap.size V (V.alloc (Obj.cells #[] 60)).drew from ((Below.refl _ V).alloc (Nat.le_refl _) _).drew)
  have HCL := hd (cut_lenJ (a := a) (b := b) hlen hbn)
  have HSM := hd (And.intro hab (And.intro hbn hnc))
  by_cases hca : cC = a
  · have hba : b = a := by omega
    have h00 : b - a = 0 := by omega
    rw [h00] at HXX HCL H63 HBY
    clear h00
    have HNW := hd (fun (X : World) => cut_nilJ (X := X) (A := AC) (bs := CB) (a := a) (b := b) (by omega))
    go_wp2_with fail
    go_region_held3 (fun x => x.cell? ⟨C, 0, none⟩ = some (.string nm) ∧ x.cell? ⟨C, 1, none⟩ = some (.int .i64 st) ∧ x.cell? ⟨C, 2, none⟩ = some (.slice AC n cC) ∧ x.cell? ⟨X, 0, none⟩ = some (.int .i64 a) ∧ x.cell? ⟨X, 1, none⟩ = some (.int .i64 b)) (go_keep)
      (first
        | (refine step_append_opt (V.alloc (Obj.cells #[] 60)).drew (by rfl) (.tmp 185) (.tmp 192) 22 (by rfl) V.heap.size 60 j0 (.float .f32 0) 1 4 Tryz.underlying22 HJ.out.1 HJ.out.2.1 HJ.out.2.2.1 HJ.out.2.2.2 rfl (by decide) (.slice (some ⟨V.heap.size, 0, none⟩) 0 0) 0 [] (by rfl) HA1.out AC 0 0 (flc ((CB.take b).drop a)) (by rfl) HCL.out (fun e => by rcases HLV.out with h | ⟨g, h⟩; (have := HSM.out; omega); rw [h] at e; cases e) (HNW.out _) (one_flc _) H63.out HBY.out (by simp) ?_; intro v4 w4 hown4 hg4; simp only [Nat.zero_add, List.nil_append] at hown4; have HW4 := hd (HBV.out.grown hg4 (by simp) (fun kk hk => by simp [Value.ownBlock] at hk; omega)); obtain ⟨A4, c4, hv4, -⟩ := own_form hown4; subst hv4; have HO4 := hd hown4; clear hown4 hg4; have hq := (HW4.out.block _ (blk_lt HC.out)).trans HC.out; have k0 := blk_cell hq 0; have k1 := blk_cell hq 1; have k2 := blk_cell hq 2; simp at k0 k1 k2; clear hq; have hq := (HW4.out.block _ (blk_lt HX.out)).trans HX.out; have x0 := blk_cell hq 0; have x1 := blk_cell hq 1; simp at x0 x1; clear hq; have HP4 := hd ((HW4.out.block _ (blk_lt HP.out)).trans HP.out); have y0 := blk_cell HP4.out 4; have f0 := blk_frozen HP4.out 4; have y1 := blk_cell HP4.out 5; have f1 := blk_frozen HP4.out 5; have y2 := blk_cell HP4.out 6; have f2 := blk_frozen HP4.out 6; have y3 := blk_cell HP4.out 7; have f3 := blk_frozen HP4.out 7; simp at y0 y1 y2 y3))
    all_goals
      go_wp2_with fail
      have hq := setJ_blk HP4.out 4 (.string nm) (.int .i64 (st + (a : Int))) (.slice A4 0 c4) (.slice none 0 0)
      simp at hq
      refine HXX.out _ _ _ _ _ _ _ _ _ _ _ _ _ _ _ _ _ _ _ (setJ w4 P 4 (.string nm) (.int .i64 (st + (a : Int))) (.slice A4 0 c4) (.slice none 0 0)) ⟨A4, c4, hq, setJ_own HO4.out (own_box HO4.out HP4.out (by decide)), setJ_below (HW4.out.mono (Nat.le_of_lt (blk_lt HP.out))) (Nat.le_refl P) _ _ _ _, fun q' h1 h2 => (setJ_far h2.symm _ _ _ _).trans (HW4.out.block q' h1), by rw [setJ_size]; exact HW4.out.size⟩
  · have hca' : ¬ a = cC := fun e => hca e.symm
    obtain ⟨lb, rfl⟩ : ∃ g, AC = some ⟨g, 0, none⟩ := by
      rcases HLV.out with ⟨-, h1, h2⟩ | h
      · omega
      · exact h
    have HNW := hd (fun (X : World) (hX : Below V.heap.size V X) => cut_newsJ (q := a) HL.out hlen hab hbn (fun _ => rfl) hX)
    go_wp2_with fail
    go_region_held3 (fun x => x.cell? ⟨C, 0, none⟩ = some (.string nm) ∧ x.cell? ⟨C, 1, none⟩ = some (.int .i64 st) ∧ x.cell? ⟨C, 2, none⟩ = some (.slice (some ⟨lb, 0, none⟩) n cC) ∧ x.cell? ⟨X, 0, none⟩ = some (.int .i64 a) ∧ x.cell? ⟨X, 1, none⟩ = some (.int .i64 b)) (go_keep)
      (first
        | (refine step_append_opt (V.alloc (Obj.cells #[] 60)).drew (by rfl) (.tmp 185) (.tmp 192) 22 (by rfl) V.heap.size 60 j0 (.float .f32 0) 1 4 Tryz.underlying22 HJ.out.1 HJ.out.2.1 HJ.out.2.2.1 HJ.out.2.2.2 rfl (by decide) (.slice (some ⟨V.heap.size, 0, none⟩) 0 0) 0 [] (by rfl) HA1.out (some ⟨lb, a, none⟩) (b - a) (cC - a) (flc ((CB.take b).drop a)) (by rfl) HCL.out (fun e => by cases e) (HNW.out _ HBV.out) (one_flc _) H63.out HBY.out (by simp) ?_; intro v4 w4 hown4 hg4; simp only [Nat.zero_add, List.nil_append] at hown4; have HW4 := hd (HBV.out.grown hg4 (by simp) (fun kk hk => by simp [Value.ownBlock] at hk; omega)); obtain ⟨A4, c4, hv4, -⟩ := own_form hown4; subst hv4; have HO4 := hd hown4; clear hown4 hg4; have hq := (HW4.out.block _ (blk_lt HC.out)).trans HC.out; have k0 := blk_cell hq 0; have k1 := blk_cell hq 1; have k2 := blk_cell hq 2; simp at k0 k1 k2; clear hq; have hq := (HW4.out.block _ (blk_lt HX.out)).trans HX.out; have x0 := blk_cell hq 0; have x1 := blk_cell hq 1; simp at x0 x1; clear hq; have HP4 := hd ((HW4.out.block _ (blk_lt HP.out)).trans HP.out); have y0 := blk_cell HP4.out 4; have f0 := blk_frozen HP4.out 4; have y1 := blk_cell HP4.out 5; have f1 := blk_frozen HP4.out 5; have y2 := blk_cell HP4.out 6; have f2 := blk_frozen HP4.out 6; have y3 := blk_cell HP4.out 7; have f3 := blk_frozen HP4.out 7; simp at y0 y1 y2 y3))
    all_goals
      go_wp2_with fail
      have hq := setJ_blk HP4.out 4 (.string nm) (.int .i64 (st + (a : Int))) (.slice A4 (b - a) c4) (.slice none 0 0)
      simp at hq
      refine HXX.out _ _ _ _ _ _ _ _ _ _ _ _ _ _ _ _ _ _ _ (setJ w4 P 4 (.string nm) (.int .i64 (st + (a : Int))) (.slice A4 (b - a) c4) (.slice none 0 0)) ⟨A4, c4, hq, setJ_own HO4.out (own_box HO4.out HP4.out (by decide)), setJ_below (HW4.out.mono (Nat.le_of_lt (blk_lt HP.out))) (Nat.le_refl P) _ _ _ _, fun q' h1 h2 => (setJ_far h2.symm _ _ _ _).trans (HW4.out.block q' h1), by rw [setJ_size]; exact HW4.out.size⟩

end Go.Proofs.YtkgkpcmokmhakaaGreatDoor
