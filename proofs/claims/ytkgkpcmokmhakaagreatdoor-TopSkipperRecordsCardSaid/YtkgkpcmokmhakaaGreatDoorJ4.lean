/-
  The loop of TopSkipperRecords that makes both parts of the cleaned record. Conditions: written at it.
-/
import Derived.Test.YtkgkpcmokmhakaaGreatDoorJ2
import Derived.Test.YtkgkpcmokmhakaaGreatDoorJ3
namespace Go.Proofs.YtkgkpcmokmhakaaGreatDoor
open Go.RowKit
attribute [local go_sem] Oper.semAt_some

theorem own_keepJ {W V : World} {B e s k P : Nat} {v : Value} {xs : List Value} {cs0 : Array Value} (ho : W.ownsRow B e s v k xs) (oth : ∀ b, b < W.heap.size → b ≠ P → V.heap[b]? = W.heap[b]?) (hp : W.heap[P]? = some (.cells cs0 46 (0, 0))) (hne : 46 ≠ e) : V.ownsRow B e s v k xs := by
  refine ⟨ho.1, ?_⟩
  rcases ho.2 with h2 | ⟨g, cap, cur, e1, hB, hh, h3⟩
  · exact .inl h2
  · refine .inr ⟨g, cap, cur, e1, hB, (oth g (blk_lt hh) fun e2 => ?_).trans hh, h3⟩
    rw [e2, hp] at hh
    injection hh with hh
    injection hh with _ h5
    exact absurd h5 hne
theorem idx22J0 (a0 a1 a2 a3 : Value) (w : World) : (Instr.index 48 (.agg #[a0, a1, a2, a3]) (.int .i64 0)).run Tryz.prog w = .ok (.agg #[a0, a1]) w := by kernel_rfl
theorem idx22J1 (a0 a1 a2 a3 : Value) (w : World) : (Instr.index 48 (.agg #[a0, a1, a2, a3]) (.int .i64 1)).run Tryz.prog w = .ok (.agg #[a2, a3]) w := by kernel_rfl
/-- The parts behind none, one or both rounds. -/
def QJ0 (P : Nat) (W V : World) : Prop := V.heap[P]? = some (.cells #[.string ⟨#[]⟩, .int .i64 0, .slice none 0 0, .slice none 0 0, .string ⟨#[]⟩, .int .i64 0, .slice none 0 0, .slice none 0 0] 46 (0, 0)) ∧ Below P W V
def QJ1 (nm : ByteArray) (st : Int) (k : Nat) (CB : List Nat) (CG : List (Int × Int)) (P : Nat) (W V : World) : Prop := ∃ A0 c0 B0 d0, V.heap[P]? = some (.cells #[.string nm, .int .i64 (st + ((0 : Nat) : Int)), .slice A0 (k - 0) c0, .slice B0 (cutP CG ((0 : Nat) : Int) (k : Int)).length d0, .string ⟨#[]⟩, .int .i64 0, .slice none 0 0, .slice none 0 0] 46 (0, 0)) ∧ V.ownsRow 0 60 1 (.slice A0 (k - 0) c0) (k - 0) (flc ((CB.take k).drop 0)) ∧ V.ownsRow 0 50 2 (.slice B0 (cutP CG ((0 : Nat) : Int) (k : Int)).length d0) (cutP CG ((0 : Nat) : Int) (k : Int)).length (spc (cutP CG ((0 : Nat) : Int) (k : Int))) ∧ Below P W V
def QJ2 (nm : ByteArray) (st : Int) (k n : Nat) (CB : List Nat) (CG : List (Int × Int)) (P : Nat) (W V : World) : Prop := ∃ A0 c0 B0 d0 A1 c1 B1 d1, V.heap[P]? = some (.cells #[.string nm, .int .i64 (st + ((0 : Nat) : Int)), .slice A0 (k - 0) c0, .slice B0 (cutP CG ((0 : Nat) : Int) (k : Int)).length d0, .string nm, .int .i64 (st + (k : Int)), .slice A1 (n - k) c1, .slice B1 (cutP CG (k : Int) (n : Int)).length d1] 46 (0, 0)) ∧ (V.ownsRow 0 60 1 (.slice A0 (k - 0) c0) (k - 0) (flc ((CB.take k).drop 0)) ∧ V.ownsRow 0 50 2 (.slice B0 (cutP CG ((0 : Nat) : Int) (k : Int)).length d0) (cutP CG ((0 : Nat) : Int) (k : Int)).length (spc (cutP CG ((0 : Nat) : Int) (k : Int)))) ∧ (V.ownsRow 0 60 1 (.slice A1 (n - k) c1) (n - k) (flc ((CB.take n).drop k)) ∧ V.ownsRow 0 50 2 (.slice B1 (cutP CG (k : Int) (n : Int)).length d1) (cutP CG (k : Int) (n : Int)).length (spc (cutP CG (k : Int) (n : Int)))) ∧ Below P W V

set_option maxRecDepth 1000000 in
set_option maxHeartbeats 16000000 in
theorem rec_l3 (nm : ByteArray) (st : Int) (AC AD : Option Addr) (n k cC cD C P : Nat) (CB : List Nat) (CG : List (Int × Int)) (W : World) (Q0 : Exit → Act → World → Prop)
    (HP0 : Hid (W.heap[P]? = some (.cells #[.string ⟨#[]⟩, .int .i64 0, .slice none 0 0, .slice none 0 0, .string ⟨#[]⟩, .int .i64 0, .slice none 0 0, .slice none 0 0] 46 (0, 0)))) (HC : Hid (W.heap[C]? = some (.cells #[.string nm, .int .i64 st, .slice AC n cC, .slice AD CG.length cD] 35 (0, 0)))) (HCP : Hid (C < P))
    (RL : Hid (Rd W P (.slice AC n cC) n (flc CB))) (RD : Hid (Rd W P (.slice AD CG.length cD) CG.length (spc CG))) (HLV : Hid ((AC = none ∧ n = 0 ∧ cC = 0) ∨ ∃ g, AC = some ⟨g, 0, none⟩))
    (HN : Hid (k ≤ n ∧ n ≤ cC ∧ CB.length = n ∧ n ≤ 4096 ∧ CG.length ≤ 2048 ∧ 0 ≤ st ∧ st ≤ 99900)) (HBD : Hid (∀ s ∈ CG, 0 ≤ s.1 ∧ s.1 < s.2 ∧ s.2 ≤ 100000))
    {t0 t1 t2 t3 t4 t5 t6 t7 t8 t9 t11 t12 t13 t14 t15 t16 t17 t18 t19 t21 t22 t23 t24 t25 t26 t27 t28 t29 t30 t31 t32 t33 t34 t35 t36 t37 t38 t39 t40 t41 t42 t43 t44 t45 t46 t47 t48 t49 t50 t51 t52 t53 t54 t55 t56 t57 t58 t59 t60 t61 t62 t63 t64 t65 t66 t67 t68 t69 t70 t71 t72 t73 t74 t75 t76 t77 t78 t79 t80 t81 t82 t83 t84 t85 t86 t87 t88 t89 t90 t91 t92 t93 t94 t95 t96 t97 t98 t99 t100 t101 t102 t103 t104 t105 t106 t107 t108 t109 t110 t111 t112 t113 t114 t115 t116 t117 t118 t119 t120 t121 t122 t123 t124 t125 t126 t127 t128 t129 t130 t131 t132 t133 t134 t135 t136 t137 t138 t139 t140 t141 t142 t143 t144 t145 t146 t147 t148 t149 t150 t151 t152 t153 t154 t155 t156 t157 t158 t159 t160 t161 t162 t163 t164 t165 t166 t167 t168 t169 t170 t171 t174 t175 t176 t177 t178 t179 t180 t181 t182 t183 t184 t185 t186 t187 t188 t189 t190 t191 t192 t193 t194 t195 t196 t197 t198 t199 t200 t201 t202 t203 t204 t205 t206 t207 t208 t209 t210 t211 t212 t213 t214 t215 t216 t217 t218 t219 t220 t221 t222 t223 t224 t225 t226 t227 t228 t229 t230 t231 t232 t233 t234 t235 t236 t237 t238 t239 t240 t241 t242 t243 t244 t245 t246 t247 t248 t249 t250 t251 t252 t253 t254 t255 t256 t257 t258 t259 t260 t261 t262 t263 t264 t265 t266 t267 t268 t269 t270 t271 t272 t273 t274 t275 t276 t277 t278 t279 t280 t281 t282 t283 t284 t285 t286 t287 t288 t289 t290 t291 t292 t293 t294 t295 t296 t297 t298 t299 t300 t301 t302 t303 t304 t305 t306 t307 t308 t309 t310 t311 t312 t313 t314 t315 t316 t317 t318 t319 t320 t321 t322 t323 t324 t325 t326 t327 t328 t329 t330 t331 t332 t333 t334 t335 t336 t337 t338 t339 t340 t341 t342 t343 t344 t345 t346 t347 t348 t349 t350 t351 t352 t353 : Value}
    (hexit : ∀ (u21 u22 u24 u25 u26 u173 u174 u175 u176 u177 u178 u179 u180 u181 u182 u183 u184 u185 u186 u187 u188 u189 u190 u191 u192 u193 u194 u195 u196 u197 u198 u199 u200 u201 u202 u203 u204 u205 u206 u207 u208 u209 u210 u211 u212 u213 u214 u215 u216 u217 u218 u219 u220 u221 u222 u223 u224 u225 u226 u227 u228 u229 u230 u231 u232 u233 u234 u235 : Value) (w' : World), QJ2 nm st k n CB CG P W w' → Q0 (.exit 4) ⟨List.toArray (t0 :: t1 :: t2 :: t3 :: t4 :: t5 :: t6 :: t7 :: t8 :: t9 :: .pointer (some ⟨C, 0, none⟩) :: t11 :: t12 :: t13 :: t14 :: t15 :: t16 :: t17 :: t18 :: t19 :: .pointer (some ⟨P, 0, none⟩) :: u21 :: u22 :: t23 :: u24 :: u25 :: u26 :: t27 :: t28 :: t29 :: t30 :: t31 :: t32 :: t33 :: t34 :: t35 :: t36 :: t37 :: t38 :: t39 :: t40 :: t41 :: t42 :: t43 :: t44 :: t45 :: t46 :: t47 :: t48 :: t49 :: t50 :: t51 :: t52 :: t53 :: t54 :: t55 :: t56 :: t57 :: t58 :: t59 :: t60 :: t61 :: t62 :: t63 :: t64 :: t65 :: t66 :: t67 :: t68 :: t69 :: t70 :: t71 :: t72 :: t73 :: t74 :: t75 :: t76 :: t77 :: t78 :: t79 :: t80 :: t81 :: t82 :: t83 :: t84 :: t85 :: t86 :: t87 :: t88 :: t89 :: t90 :: t91 :: t92 :: t93 :: t94 :: t95 :: t96 :: t97 :: t98 :: t99 :: t100 :: t101 :: t102 :: t103 :: t104 :: t105 :: t106 :: t107 :: t108 :: t109 :: t110 :: t111 :: t112 :: t113 :: t114 :: t115 :: t116 :: t117 :: t118 :: t119 :: t120 :: t121 :: t122 :: t123 :: t124 :: t125 :: t126 :: t127 :: t128 :: t129 :: t130 :: t131 :: t132 :: t133 :: t134 :: t135 :: t136 :: t137 :: t138 :: t139 :: t140 :: t141 :: t142 :: t143 :: t144 :: t145 :: t146 :: t147 :: t148 :: t149 :: t150 :: t151 :: t152 :: t153 :: t154 :: t155 :: t156 :: t157 :: t158 :: t159 :: t160 :: t161 :: t162 :: t163 :: t164 :: t165 :: t166 :: t167 :: t168 :: t169 :: t170 :: t171 :: .agg #[.int .i64 0, .int .i64 k, .int .i64 k, .int .i64 n] :: u173 :: u174 :: u175 :: u176 :: u177 :: u178 :: u179 :: u180 :: u181 :: u182 :: u183 :: u184 :: u185 :: u186 :: u187 :: u188 :: u189 :: u190 :: u191 :: u192 :: u193 :: u194 :: u195 :: u196 :: u197 :: u198 :: u199 :: u200 :: u201 :: u202 :: u203 :: u204 :: u205 :: u206 :: u207 :: u208 :: u209 :: u210 :: u211 :: u212 :: u213 :: u214 :: u215 :: u216 :: u217 :: u218 :: u219 :: u220 :: u221 :: u222 :: u223 :: u224 :: u225 :: u226 :: u227 :: u228 :: u229 :: u230 :: u231 :: u232 :: u233 :: u234 :: u235 :: t236 :: t237 :: t238 :: t239 :: t240 :: t241 :: t242 :: t243 :: t244 :: t245 :: t246 :: t247 :: t248 :: t249 :: t250 :: t251 :: t252 :: t253 :: t254 :: t255 :: t256 :: t257 :: t258 :: t259 :: t260 :: t261 :: t262 :: t263 :: t264 :: t265 :: t266 :: t267 :: t268 :: t269 :: t270 :: t271 :: t272 :: t273 :: t274 :: t275 :: t276 :: t277 :: t278 :: t279 :: t280 :: t281 :: t282 :: t283 :: t284 :: t285 :: t286 :: t287 :: t288 :: t289 :: t290 :: t291 :: t292 :: t293 :: t294 :: t295 :: t296 :: t297 :: t298 :: t299 :: t300 :: t301 :: t302 :: t303 :: t304 :: t305 :: t306 :: t307 :: t308 :: t309 :: t310 :: t311 :: t312 :: t313 :: t314 :: t315 :: t316 :: t317 :: t318 :: t319 :: t320 :: t321 :: t322 :: t323 :: t324 :: t325 :: t326 :: t327 :: t328 :: t329 :: t330 :: t331 :: t332 :: t333 :: t334 :: t335 :: t336 :: t337 :: t338 :: t339 :: t340 :: t341 :: t342 :: t343 :: t344 :: t345 :: t346 :: t347 :: t348 :: t349 :: t350 :: t351 :: t352 :: t353 :: []), []⟩ w') :
    Code.wp Tryz.prog (Code.loop jL3) Q0 ⟨List.toArray (t0 :: t1 :: t2 :: t3 :: t4 :: t5 :: t6 :: t7 :: t8 :: t9 :: .pointer (some ⟨C, 0, none⟩) :: t11 :: t12 :: t13 :: t14 :: t15 :: t16 :: t17 :: t18 :: t19 :: .pointer (some ⟨P, 0, none⟩) :: t21 :: t22 :: t23 :: t24 :: t25 :: t26 :: t27 :: t28 :: t29 :: t30 :: t31 :: t32 :: t33 :: t34 :: t35 :: t36 :: t37 :: t38 :: t39 :: t40 :: t41 :: t42 :: t43 :: t44 :: t45 :: t46 :: t47 :: t48 :: t49 :: t50 :: t51 :: t52 :: t53 :: t54 :: t55 :: t56 :: t57 :: t58 :: t59 :: t60 :: t61 :: t62 :: t63 :: t64 :: t65 :: t66 :: t67 :: t68 :: t69 :: t70 :: t71 :: t72 :: t73 :: t74 :: t75 :: t76 :: t77 :: t78 :: t79 :: t80 :: t81 :: t82 :: t83 :: t84 :: t85 :: t86 :: t87 :: t88 :: t89 :: t90 :: t91 :: t92 :: t93 :: t94 :: t95 :: t96 :: t97 :: t98 :: t99 :: t100 :: t101 :: t102 :: t103 :: t104 :: t105 :: t106 :: t107 :: t108 :: t109 :: t110 :: t111 :: t112 :: t113 :: t114 :: t115 :: t116 :: t117 :: t118 :: t119 :: t120 :: t121 :: t122 :: t123 :: t124 :: t125 :: t126 :: t127 :: t128 :: t129 :: t130 :: t131 :: t132 :: t133 :: t134 :: t135 :: t136 :: t137 :: t138 :: t139 :: t140 :: t141 :: t142 :: t143 :: t144 :: t145 :: t146 :: t147 :: t148 :: t149 :: t150 :: t151 :: t152 :: t153 :: t154 :: t155 :: t156 :: t157 :: t158 :: t159 :: t160 :: t161 :: t162 :: t163 :: t164 :: t165 :: t166 :: t167 :: t168 :: t169 :: t170 :: t171 :: .agg #[.int .i64 0, .int .i64 k, .int .i64 k, .int .i64 n] :: .int .i64 0 :: t174 :: t175 :: t176 :: t177 :: t178 :: t179 :: t180 :: t181 :: t182 :: t183 :: t184 :: t185 :: t186 :: t187 :: t188 :: t189 :: t190 :: t191 :: t192 :: t193 :: t194 :: t195 :: t196 :: t197 :: t198 :: t199 :: t200 :: t201 :: t202 :: t203 :: t204 :: t205 :: t206 :: t207 :: t208 :: t209 :: t210 :: t211 :: t212 :: t213 :: t214 :: t215 :: t216 :: t217 :: t218 :: t219 :: t220 :: t221 :: t222 :: t223 :: t224 :: t225 :: t226 :: t227 :: t228 :: t229 :: t230 :: t231 :: t232 :: t233 :: t234 :: t235 :: t236 :: t237 :: t238 :: t239 :: t240 :: t241 :: t242 :: t243 :: t244 :: t245 :: t246 :: t247 :: t248 :: t249 :: t250 :: t251 :: t252 :: t253 :: t254 :: t255 :: t256 :: t257 :: t258 :: t259 :: t260 :: t261 :: t262 :: t263 :: t264 :: t265 :: t266 :: t267 :: t268 :: t269 :: t270 :: t271 :: t272 :: t273 :: t274 :: t275 :: t276 :: t277 :: t278 :: t279 :: t280 :: t281 :: t282 :: t283 :: t284 :: t285 :: t286 :: t287 :: t288 :: t289 :: t290 :: t291 :: t292 :: t293 :: t294 :: t295 :: t296 :: t297 :: t298 :: t299 :: t300 :: t301 :: t302 :: t303 :: t304 :: t305 :: t306 :: t307 :: t308 :: t309 :: t310 :: t311 :: t312 :: t313 :: t314 :: t315 :: t316 :: t317 :: t318 :: t319 :: t320 :: t321 :: t322 :: t323 :: t324 :: t325 :: t326 :: t327 :: t328 :: t329 :: t330 :: t331 :: t332 :: t333 :: t334 :: t335 :: t336 :: t337 :: t338 :: t339 :: t340 :: t341 :: t342 :: t343 :: t344 :: t345 :: t346 :: t347 :: t348 :: t349 :: t350 :: t351 :: t352 :: t353 :: []), []⟩ W := by
  conv => arg 2; arg 1; whnf
  have HX := hd hexit
  clear hexit
  go_loopw [173] (fun kv wr => ∃ j : Nat, j ≤ 2 ∧ kv = .int .i64 j ∧ Hid (match j with | 0 => QJ0 P W wr | 1 => QJ1 nm st k CB CG P W wr | _ => QJ2 nm st k n CB CG P W wr)) (fun kv _ => 2 - (intOf kv).toNat)
  case atStart => exact ⟨0, by omega, rfl, hd ⟨HP0.out, Below.refl _ _⟩⟩
  case round =>
    obtain ⟨j, hj, rfl, HJ⟩ := hrel
    by_cases hj2 : j < 2
    · rcases (show j = 0 ∨ j = 1 by omega) with rfl | rfl
      · clear hj hj2
        have hq : QJ0 P W wr := HJ.out
        obtain ⟨hp, hb⟩ := hq
        clear HJ
        have hw1 : Below wr.heap.size wr (wr.alloc (Obj.cells #[.int .i64 ((0 : Nat) : Int), .int .i64 (k : Int)] 47)) := (Below.refl _ wr).alloc (Nat.le_refl _) _
        have HB := hd (hb.trans (hw1.mono (Nat.le_of_lt (blk_lt hp))))
        have HP := hd ((hw1.block _ (blk_lt hp)).trans hp)
        have HC1 := hd ((HB.out.block _ HCP.out).trans HC.out)
        have HXB := hd (blk_new wr #[.int .i64 ((0 : Nat) : Int), .int .i64 (k : Int)] 47)
        have HPl := hd (Nat.lt_of_lt_of_le (blk_lt hp) (Nat.le_refl wr.heap.size))
        have HRL := hd ((RL.out.below HB.out (Nat.le_refl _)).mono (Nat.le_of_lt (blk_lt HP.out)))
        clear hp hb hw1
        have hix := idx22J0
        go_wp2_with fail
        generalize hW1 : wr.alloc (Obj.cells #[.int .i64 ((0 : Nat) : Int), .int .i64 (k : Int)] 47) = w1 at *
        have hXs : wr.heap.size < w1.heap.size := by rw [← hW1]; simp
        have HXs := hd hXs
        clear hXs hW1
        generalize wr.heap.size = X at *
        refine rec_r28_0 nm st AC (.slice AD CG.length cD) (.string ⟨#[]⟩) (.int .i64 0) (.slice none 0 0) (.slice none 0 0) (.string ⟨#[]⟩) (.int .i64 0) (.slice none 0 0) (.slice none 0 0) n cC C X P 0 k CB w1 _ HC1 HXB HP HRL HLV (hd ⟨by have := HN.out; omega, by have := HN.out; omega, HN.out.2.1, HN.out.2.2.1, by have := HN.out; omega, HN.out.2.2.2.2.2.1, by have := HN.out; omega⟩) ?_
        intro v177 v178 v179 v180 v181 v182 v183 v184 v185 v186 v187 v188 v189 v190 v191 v192 v193 v194 v195 w2 hfact
        obtain ⟨A2, c2, hbx, hol, hb2, hoth, hsz⟩ := hfact
        have HB2 := hd (HB.out.trans hb2)
        have HC2 := hd ((HB2.out.block _ HCP.out).trans HC.out)
        have HP2 := hd hbx
        have HOL := hd (own_base hol (Nat.zero_le _))
        have HX2 := hd ((hoth X HXs.out (Nat.ne_of_gt HPl.out)).trans HXB.out)
        clear hbx hol hb2 hoth hsz HB HP HC1 HXB HRL
        have k3 := blk_cell HC2.out 3
        simp at k3
        go_wp2_with fail
        refine rec_l4_0 nm ⟨#[]⟩ (st + ((0 : Nat) : Int)) 0 (.slice A2 (k - 0) c2) (.slice none 0 0) (.slice none 0 0) AD cD P X 0 k CG w2 _ (hd ⟨⟨none, 0, HP2.out, World.ownsRow_nil _ _ _ _⟩, Below.refl _ _, fun _ _ _ => rfl, Nat.le_refl _⟩) HX2 (hd (RD.out.below HB2.out (Nat.le_refl _))) (hd ⟨by have := HN.out; omega, by have := HN.out; omega, by have := HN.out; omega⟩) HBD ?_
        intro x24 x25 x26 x199 x200 x201 x202 x203 x204 x205 x206 x207 x208 x209 x210 x211 x212 x213 x214 x215 x216 x217 x218 x219 x220 x221 x222 x223 x224 x225 x226 x227 x228 x229 x230 x231 x232 x233 x234 w3 hpj
        clear k3
        obtain ⟨B2, d2, hbx, hog⟩ := hpj.box
        have hoth3 : ∀ b, b < w2.heap.size → b ≠ P → w3.heap[b]? = w2.heap[b]? := hpj.oth
        have HOL3 := hd (own_keepJ HOL.out hoth3 HP2.out (by decide))
        have HOG3 := hd (own_base hog (Nat.zero_le _))
        have HB3 := hd (HB2.out.trans hpj.bel)
        have HP3 := hd hbx
        clear hbx hog hpj hoth3 HOL HB2 HP2 HC2 HX2 HXs HPl
        go_wp2
        go_roundw
        case rel => exact ⟨0 + 1, by omega, rfl, hd ⟨A2, c2, B2, d2, HP3.out, HOL3.out, HOG3.out, HB3.out⟩⟩
        case measure => simp [intOf]
      · clear hj hj2
        have hq : QJ1 nm st k CB CG P W wr := HJ.out
        obtain ⟨A0, c0, B0, d0, hp, ho1, ho2, hb⟩ := hq
        clear HJ
        have hw1 : Below wr.heap.size wr (wr.alloc (Obj.cells #[.int .i64 (k : Int), .int .i64 (n : Int)] 47)) := (Below.refl _ wr).alloc (Nat.le_refl _) _
        have HB := hd (hb.trans (hw1.mono (Nat.le_of_lt (blk_lt hp))))
        have HP := hd ((hw1.block _ (blk_lt hp)).trans hp)
        have HC1 := hd ((HB.out.block _ HCP.out).trans HC.out)
        have HXB := hd (blk_new wr #[.int .i64 (k : Int), .int .i64 (n : Int)] 47)
        have HPl := hd (Nat.lt_of_lt_of_le (blk_lt hp) (Nat.le_refl wr.heap.size))
        have HRL := hd ((RL.out.below HB.out (Nat.le_refl _)).mono (Nat.le_of_lt (blk_lt HP.out)))
        have HO1 := hd (ho1.alloc (Obj.cells #[.int .i64 (k : Int), .int .i64 (n : Int)] 47))
        have HO2 := hd (ho2.alloc (Obj.cells #[.int .i64 (k : Int), .int .i64 (n : Int)] 47))
        clear ho1 ho2
        clear hp hb hw1
        have hix := idx22J1
        go_wp2_with fail
        generalize hW1 : wr.alloc (Obj.cells #[.int .i64 (k : Int), .int .i64 (n : Int)] 47) = w1 at *
        have hXs : wr.heap.size < w1.heap.size := by rw [← hW1]; simp
        have HXs := hd hXs
        clear hXs hW1
        generalize wr.heap.size = X at *
        refine rec_r28_1 nm st AC (.slice AD CG.length cD) (.string nm) (.int .i64 (st + ((0 : Nat) : Int))) (.slice A0 (k - 0) c0) (.slice B0 (cutP CG ((0 : Nat) : Int) (k : Int)).length d0) (.string ⟨#[]⟩) (.int .i64 0) (.slice none 0 0) (.slice none 0 0) n cC C X P k n CB w1 _ HC1 HXB HP HRL HLV (hd ⟨by have := HN.out; omega, by have := HN.out; omega, HN.out.2.1, HN.out.2.2.1, by have := HN.out; omega, HN.out.2.2.2.2.2.1, by have := HN.out; omega⟩) ?_
        intro v177 v178 v179 v180 v181 v182 v183 v184 v185 v186 v187 v188 v189 v190 v191 v192 v193 v194 v195 w2 hfact
        obtain ⟨A2, c2, hbx, hol, hb2, hoth, hsz⟩ := hfact
        have HB2 := hd (HB.out.trans hb2)
        have HC2 := hd ((HB2.out.block _ HCP.out).trans HC.out)
        have HP2 := hd hbx
        have HOL := hd (own_base hol (Nat.zero_le _))
        have HX2 := hd ((hoth X HXs.out (Nat.ne_of_gt HPl.out)).trans HXB.out)
        have HO12 := hd (own_keepJ HO1.out hoth HP.out (by decide))
        have HO22 := hd (own_keepJ HO2.out hoth HP.out (by decide))
        clear HO1 HO2
        clear hbx hol hb2 hoth hsz HB HP HC1 HXB HRL
        have k3 := blk_cell HC2.out 3
        simp at k3
        go_wp2_with fail
        refine rec_l4_1 nm nm (st + ((0 : Nat) : Int)) (st + (k : Int)) (.slice A0 (k - 0) c0) (.slice A2 (n - k) c2) (.slice B0 (cutP CG ((0 : Nat) : Int) (k : Int)).length d0) AD cD P X k n CG w2 _ (hd ⟨⟨none, 0, HP2.out, World.ownsRow_nil _ _ _ _⟩, Below.refl _ _, fun _ _ _ => rfl, Nat.le_refl _⟩) HX2 (hd (RD.out.below HB2.out (Nat.le_refl _))) (hd ⟨by have := HN.out; omega, by have := HN.out; omega, by have := HN.out; omega⟩) HBD ?_
        intro x24 x25 x26 x199 x200 x201 x202 x203 x204 x205 x206 x207 x208 x209 x210 x211 x212 x213 x214 x215 x216 x217 x218 x219 x220 x221 x222 x223 x224 x225 x226 x227 x228 x229 x230 x231 x232 x233 x234 w3 hpj
        clear k3
        obtain ⟨B2, d2, hbx, hog⟩ := hpj.box
        have hoth3 : ∀ b, b < w2.heap.size → b ≠ P → w3.heap[b]? = w2.heap[b]? := hpj.oth
        have HOL3 := hd (own_keepJ HOL.out hoth3 HP2.out (by decide))
        have HOG3 := hd (own_base hog (Nat.zero_le _))
        have HB3 := hd (HB2.out.trans hpj.bel)
        have HP3 := hd hbx
        have HO13 := hd (own_keepJ HO12.out hoth3 HP2.out (by decide))
        have HO23 := hd (own_keepJ HO22.out hoth3 HP2.out (by decide))
        clear hbx hog hpj hoth3 HOL HB2 HP2 HC2 HX2 HXs HPl HO12 HO22
        go_wp2
        go_roundw
        case rel => exact ⟨1 + 1, by omega, rfl, hd ⟨A0, c0, B0, d0, A2, c2, B2, d2, HP3.out, ⟨HO13.out, HO23.out⟩, ⟨HOL3.out, HOG3.out⟩, HB3.out⟩⟩
        case measure => simp [intOf]
    · obtain rfl : j = 2 := by omega
      have hkk : ¬ ((2 : Nat) : Int) < 2 := by omega
      go_wp2_with fail
      exact HX.out _ _ _ _ _ _ _ _ _ _ _ _ _ _ _ _ _ _ _ _ _ _ _ _ _ _ _ _ _ _ _ _ _ _ _ _ _ _ _ _ _ _ _ _ _ _ _ _ _ _ _ _ _ _ _ _ _ _ _ _ _ _ _ _ _ _ _ _ _ HJ.out
end Go.Proofs.YtkgkpcmokmhakaaGreatDoor
