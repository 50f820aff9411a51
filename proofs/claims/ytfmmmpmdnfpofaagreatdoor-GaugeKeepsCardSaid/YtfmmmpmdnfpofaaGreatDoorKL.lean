/-
  The loops of GaugeKeeps, out of the program's own text: over the rules, and over equal levels. Conditions: written at each.
-/
import Derived.Test.YtfmmmpmdnfpofaaGreatDoorProg
import Derived.Test.YtfmmmpmdnfpofaaGreatDoorKB
import Derived.Test.YtfmmmpmdnfpofaaGreatDoorQ7
import Derived.Test.YtfmmmpmdnfpofaaGreatDoorH2
import Derived.Deep.RegionHeld3
import Derived.BigQuiet
namespace Go.Proofs.YtfmmmpmdnfpofaaGreatDoor
open Go.RowKit
attribute [local go_sem] Oper.semAt_some

/-- The outermost loops' rounds, in their order. -/
def loopsOf : Code → List Code
  | .loop c => [c]
  | .seq a b => loopsOf a ++ loopsOf b
  | .block _ c => loopsOf c
  | .scope c => loopsOf c
  | .cond _ a b => loopsOf a ++ loopsOf b
  | _ => []
set_option maxRecDepth 1000000 in
noncomputable def kL1 : Code := ((Tryz.f3.body.map loopsOf).getD []).getD 0 .skip
set_option maxRecDepth 1000000 in
noncomputable def kL4 : Code := ((Tryz.f3.body.map loopsOf).getD []).getD 1 .skip
noncomputable def kL2 : Code := (loopsOf kL1).getD 0 .skip
noncomputable def kL3 : Code := (loopsOf kL2).getD 0 .skip

/-- How many levels ahead of m, one after the other, are there and equal the level i. -/
def runU (CB : List Nat) (CG : List (Int × Int)) (i : Nat) : Nat → Nat
  | 0 => 0
  | m + 1 => if !hasL CG (m : Int) && feqL (CB.getD m 0) (CB.getD i 0) then runU CB CG i m + 1 else 0
theorem runU_le (CB : List Nat) (CG : List (Int × Int)) (i : Nat) : ∀ m, runU CB CG i m ≤ m
  | 0 => Nat.le_refl _
  | m + 1 => by
    have := runU_le CB CG i m
    unfold runU
    split <;> omega
theorem rdL2 {W V : World} {A : Option Addr} {n c : Nat} {l : List Nat} (h : Rd W W.heap.size (.slice A n c) n (flc l)) (hl : l.length = n) (hb : Below W.heap.size W V) {k : Nat} (hk : k < n) : ∃ b o, A = some ⟨b, o, none⟩ ∧ V.cell? ⟨b, o + k, none⟩ = some (.float .f32 (l.getD k 0)) := by
  obtain ⟨A', c', e', -, -, hx⟩ := h
  cases e'
  obtain ⟨b, o, rfl, hbb, hc⟩ := hx (by omega)
  exact ⟨b, o, rfl, (hb.cell (p := ⟨b, _, none⟩) hbb).trans ((hc k (by simpa [flc, hl] using hk)).trans (flc_at l k (by omega)))⟩

set_option maxRecDepth 1000000 in
set_option maxHeartbeats 4000000 in
theorem keeps_l3 (nm : ByteArray) (st : Int) (AC AD : Option Addr) (cC cD n C k : Nat) (CB : List Nat) (CG : List (Int × Int)) (W w : World) (Q0 : Exit → Act → World → Prop)
    (HC : Hid (W.heap[C]? = some (.cells #[.string nm, .int .i64 st, .slice AC n cC, .slice AD CG.length cD] 35 (0, 0)))) (RC : Hid (Rd W W.heap.size (.slice AC n cC) n (flc CB))) (RD : Hid (Rd W W.heap.size (.slice AD CG.length cD) CG.length (spc CG)))
    (HN : Hid (CB.length = n ∧ k < n ∧ n ≤ 100000)) (HJ0 : Hid (Below W.heap.size W w))
    {c0 c1 c2 c3 c4 c5 c6 c8 c9 c10 c11 c12 c14 c15 c16 c17 c18 c19 c20 c23 c24 c25 c26 c27 c28 c29 c30 c31 c32 c33 c34 c35 c36 c37 c38 c39 c40 c41 c42 c43 c44 c45 c46 c47 c48 c49 c50 c51 c52 c53 c54 c55 c56 c57 c58 c59 c60 c61 c62 c63 c64 c65 c66 c67 c68 c69 c70 c71 c72 c73 c74 c75 c76 c77 c78 c79 c80 c81 c82 c83 c84 c85 c86 c87 c88 c89 c90 c91 c92 c93 c94 c95 c96 c97 c98 c99 c100 c101 c102 c103 c104 c105 c106 c107 c108 c109 c110 c111 c112 c113 c114 c115 c116 c117 c118 c119 c120 c121 c122 c123 c124 c125 c126 c127 c128 c129 c130 c131 c132 c133 c134 c135 c136 c137 c138 c139 c140 c141 c142 c143 c144 c145 c146 c147 c148 c149 c150 c151 c152 c153 c154 c155 c156 c157 c158 c159 c160 c161 c162 c163 c164 c165 c166 c167 c168 c169 c170 c171 c172 c173 c174 c175 c176 c177 c178 c179 c180 c181 c182 c183 c184 c185 c186 c187 c188 c189 c190 c191 c192 c193 c194 c195 c196 c197 c198 c199 c200 c201 c202 c203 c204 c205 c206 c207 c208 c209 c210 c211 c212 c213 c214 c215 c216 c217 c218 c219 c220 c221 c222 c223 c224 c225 c226 c227 c228 c229 c230 c231 c232 c233 c234 c235 c236 c237 c238 c239 c240 c241 c242 c243 c244 c245 c246 c247 c248 c249 c250 c251 c252 c253 c254 c255 c256 c257 c258 c259 c260 c261 c262 c263 c264 c265 c266 c267 c268 c269 c270 c271 c272 c273 c274 c275 c276 c277 c278 c279 c280 c281 c282 c283 c284 c285 c286 c287 c288 c289 c290 c291 c292 c293 c294 c295 c296 c297 c298 c299 c300 c301 c302 c303 c304 c305 c306 c307 c308 c309 c310 c311 c312 c313 c314 c315 c316 c317 c318 c319 c320 c321 c322 c323 c324 c325 c326 c327 c328 c329 c330 c331 c332 c333 c334 c335 c336 c337 c338 c339 c340 c341 c342 c343 c344 c345 c346 c347 c348 c349 c350 c351 c352 c353 c354 c355 c356 c357 c358 c359 c360 c361 c362 c363 c364 c365 c366 c367 c368 c369 c370 c371 c372 c373 c374 c375 c376 c377 c378 c379 : Value}
    (hexit : ∀ (u22 u282 u283 u284 u285 u286 u287 u288 u289 u290 u291 u292 u293 u294 u295 u296 u297 u298 u299 u300 u301 u302 u303 u304 u305 u306 u307 : Value) (w' : World), Below W.heap.size W w' → Q0 (.exit 5) ⟨List.toArray (c0 :: c1 :: c2 :: c3 :: c4 :: c5 :: c6 :: .pointer (some ⟨C, 0, none⟩) :: c8 :: c9 :: c10 :: c11 :: c12 :: .int .i64 k :: c14 :: c15 :: c16 :: c17 :: c18 :: c19 :: c20 :: .int .i64 (runU CB CG k (k + 1)) :: u22 :: c23 :: c24 :: c25 :: c26 :: c27 :: c28 :: c29 :: c30 :: c31 :: c32 :: c33 :: c34 :: c35 :: c36 :: c37 :: c38 :: c39 :: c40 :: c41 :: c42 :: c43 :: c44 :: c45 :: c46 :: c47 :: c48 :: c49 :: c50 :: c51 :: c52 :: c53 :: c54 :: c55 :: c56 :: c57 :: c58 :: c59 :: c60 :: c61 :: c62 :: c63 :: c64 :: c65 :: c66 :: c67 :: c68 :: c69 :: c70 :: c71 :: c72 :: c73 :: c74 :: c75 :: c76 :: c77 :: c78 :: c79 :: c80 :: c81 :: c82 :: c83 :: c84 :: c85 :: c86 :: c87 :: c88 :: c89 :: c90 :: c91 :: c92 :: c93 :: c94 :: c95 :: c96 :: c97 :: c98 :: c99 :: c100 :: c101 :: c102 :: c103 :: c104 :: c105 :: c106 :: c107 :: c108 :: c109 :: c110 :: c111 :: c112 :: c113 :: c114 :: c115 :: c116 :: c117 :: c118 :: c119 :: c120 :: c121 :: c122 :: c123 :: c124 :: c125 :: c126 :: c127 :: c128 :: c129 :: c130 :: c131 :: c132 :: c133 :: c134 :: c135 :: c136 :: c137 :: c138 :: c139 :: c140 :: c141 :: c142 :: c143 :: c144 :: c145 :: c146 :: c147 :: c148 :: c149 :: c150 :: c151 :: c152 :: c153 :: c154 :: c155 :: c156 :: c157 :: c158 :: c159 :: c160 :: c161 :: c162 :: c163 :: c164 :: c165 :: c166 :: c167 :: c168 :: c169 :: c170 :: c171 :: c172 :: c173 :: c174 :: c175 :: c176 :: c177 :: c178 :: c179 :: c180 :: c181 :: c182 :: c183 :: c184 :: c185 :: c186 :: c187 :: c188 :: c189 :: c190 :: c191 :: c192 :: c193 :: c194 :: c195 :: c196 :: c197 :: c198 :: c199 :: c200 :: c201 :: c202 :: c203 :: c204 :: c205 :: c206 :: c207 :: c208 :: c209 :: c210 :: c211 :: c212 :: c213 :: c214 :: c215 :: c216 :: c217 :: c218 :: c219 :: c220 :: c221 :: c222 :: c223 :: c224 :: c225 :: c226 :: c227 :: c228 :: c229 :: c230 :: c231 :: c232 :: c233 :: c234 :: c235 :: c236 :: c237 :: c238 :: c239 :: c240 :: c241 :: c242 :: c243 :: c244 :: c245 :: c246 :: c247 :: c248 :: c249 :: c250 :: c251 :: c252 :: c253 :: c254 :: c255 :: c256 :: c257 :: c258 :: c259 :: c260 :: c261 :: c262 :: c263 :: c264 :: c265 :: c266 :: c267 :: c268 :: c269 :: c270 :: c271 :: c272 :: c273 :: c274 :: c275 :: c276 :: c277 :: c278 :: c279 :: c280 :: c281 :: u282 :: u283 :: u284 :: u285 :: u286 :: u287 :: u288 :: u289 :: u290 :: u291 :: u292 :: u293 :: u294 :: u295 :: u296 :: u297 :: u298 :: u299 :: u300 :: u301 :: u302 :: u303 :: u304 :: u305 :: u306 :: u307 :: c308 :: c309 :: c310 :: c311 :: c312 :: c313 :: c314 :: c315 :: c316 :: c317 :: c318 :: c319 :: c320 :: c321 :: c322 :: c323 :: c324 :: c325 :: c326 :: c327 :: c328 :: c329 :: c330 :: c331 :: c332 :: c333 :: c334 :: c335 :: c336 :: c337 :: c338 :: c339 :: c340 :: c341 :: c342 :: c343 :: c344 :: c345 :: c346 :: c347 :: c348 :: c349 :: c350 :: c351 :: c352 :: c353 :: c354 :: c355 :: c356 :: c357 :: c358 :: c359 :: c360 :: c361 :: c362 :: c363 :: c364 :: c365 :: c366 :: c367 :: c368 :: c369 :: c370 :: c371 :: c372 :: c373 :: c374 :: c375 :: c376 :: c377 :: c378 :: c379 :: []), []⟩ w') :
    Code.wp Tryz.prog (Code.loop kL3) Q0 ⟨List.toArray (c0 :: c1 :: c2 :: c3 :: c4 :: c5 :: c6 :: .pointer (some ⟨C, 0, none⟩) :: c8 :: c9 :: c10 :: c11 :: c12 :: .int .i64 k :: c14 :: c15 :: c16 :: c17 :: c18 :: c19 :: c20 :: .int .i64 0 :: .int .i64 k :: c23 :: c24 :: c25 :: c26 :: c27 :: c28 :: c29 :: c30 :: c31 :: c32 :: c33 :: c34 :: c35 :: c36 :: c37 :: c38 :: c39 :: c40 :: c41 :: c42 :: c43 :: c44 :: c45 :: c46 :: c47 :: c48 :: c49 :: c50 :: c51 :: c52 :: c53 :: c54 :: c55 :: c56 :: c57 :: c58 :: c59 :: c60 :: c61 :: c62 :: c63 :: c64 :: c65 :: c66 :: c67 :: c68 :: c69 :: c70 :: c71 :: c72 :: c73 :: c74 :: c75 :: c76 :: c77 :: c78 :: c79 :: c80 :: c81 :: c82 :: c83 :: c84 :: c85 :: c86 :: c87 :: c88 :: c89 :: c90 :: c91 :: c92 :: c93 :: c94 :: c95 :: c96 :: c97 :: c98 :: c99 :: c100 :: c101 :: c102 :: c103 :: c104 :: c105 :: c106 :: c107 :: c108 :: c109 :: c110 :: c111 :: c112 :: c113 :: c114 :: c115 :: c116 :: c117 :: c118 :: c119 :: c120 :: c121 :: c122 :: c123 :: c124 :: c125 :: c126 :: c127 :: c128 :: c129 :: c130 :: c131 :: c132 :: c133 :: c134 :: c135 :: c136 :: c137 :: c138 :: c139 :: c140 :: c141 :: c142 :: c143 :: c144 :: c145 :: c146 :: c147 :: c148 :: c149 :: c150 :: c151 :: c152 :: c153 :: c154 :: c155 :: c156 :: c157 :: c158 :: c159 :: c160 :: c161 :: c162 :: c163 :: c164 :: c165 :: c166 :: c167 :: c168 :: c169 :: c170 :: c171 :: c172 :: c173 :: c174 :: c175 :: c176 :: c177 :: c178 :: c179 :: c180 :: c181 :: c182 :: c183 :: c184 :: c185 :: c186 :: c187 :: c188 :: c189 :: c190 :: c191 :: c192 :: c193 :: c194 :: c195 :: c196 :: c197 :: c198 :: c199 :: c200 :: c201 :: c202 :: c203 :: c204 :: c205 :: c206 :: c207 :: c208 :: c209 :: c210 :: c211 :: c212 :: c213 :: c214 :: c215 :: c216 :: c217 :: c218 :: c219 :: c220 :: c221 :: c222 :: c223 :: c224 :: c225 :: c226 :: c227 :: c228 :: c229 :: c230 :: c231 :: c232 :: c233 :: c234 :: c235 :: c236 :: c237 :: c238 :: c239 :: c240 :: c241 :: c242 :: c243 :: c244 :: c245 :: c246 :: c247 :: c248 :: c249 :: c250 :: c251 :: c252 :: c253 :: c254 :: c255 :: c256 :: c257 :: c258 :: c259 :: c260 :: c261 :: c262 :: c263 :: c264 :: c265 :: c266 :: c267 :: c268 :: c269 :: c270 :: c271 :: c272 :: c273 :: c274 :: c275 :: c276 :: c277 :: c278 :: c279 :: c280 :: c281 :: c282 :: c283 :: c284 :: c285 :: c286 :: c287 :: c288 :: c289 :: c290 :: c291 :: c292 :: c293 :: c294 :: c295 :: c296 :: c297 :: c298 :: c299 :: c300 :: c301 :: c302 :: c303 :: c304 :: c305 :: c306 :: c307 :: c308 :: c309 :: c310 :: c311 :: c312 :: c313 :: c314 :: c315 :: c316 :: c317 :: c318 :: c319 :: c320 :: c321 :: c322 :: c323 :: c324 :: c325 :: c326 :: c327 :: c328 :: c329 :: c330 :: c331 :: c332 :: c333 :: c334 :: c335 :: c336 :: c337 :: c338 :: c339 :: c340 :: c341 :: c342 :: c343 :: c344 :: c345 :: c346 :: c347 :: c348 :: c349 :: c350 :: c351 :: c352 :: c353 :: c354 :: c355 :: c356 :: c357 :: c358 :: c359 :: c360 :: c361 :: c362 :: c363 :: c364 :: c365 :: c366 :: c367 :: c368 :: c369 :: c370 :: c371 :: c372 :: c373 :: c374 :: c375 :: c376 :: c377 :: c378 :: c379 :: []), []⟩ w := by
  conv => arg 2; arg 1; whnf
  obtain ⟨s0, hs0⟩ : ∃ s : Nat, s = runU CB CG k (k + 1) := ⟨_, rfl⟩
  rw [← hs0] at hexit
  have HS0 := hd hs0
  have HX := hd hexit
  clear hs0 hexit
  go_loopw [21, 22] (fun s21 s22 wr => ∃ m s : Nat, m ≤ k + 1 ∧ s22 = .int .i64 ((m : Int) - 1) ∧ s21 = .int .i64 s ∧ s + runU CB CG k m = s0 ∧ Hid (Below W.heap.size W wr)) (fun s21 s22 _ => (intOf s22 + 1).toNat)
  case atStart => exact ⟨k + 1, 0, Nat.le_refl _, by simp, by simp, by rw [HS0.out, Nat.zero_add], HJ0⟩
  case round =>
    obtain ⟨m, s, hm, rfl, rfl, hsum, HJ⟩ := hrel
    have HSUM := hd hsum
    clear hsum
    have hq := (HJ.out.block _ (blk_lt HC.out)).trans HC.out
    have d2 := blk_cell hq 2
    have d3 := blk_cell hq 3
    simp at d2 d3
    clear hq
    cases m with
    | zero =>
      clear d2 d3
      have hk0 : decide ((0 : Int) ≤ ((0 : Nat) : Int) - 1) = false := by simp
      have he : s = s0 := by have := HSUM.out; simpa [runU] using this
      subst he
      simp only [Int.ofNat_zero, Int.zero_sub] at hk0 ⊢
      go_wp2_with fail
      refine wp_region_bw (by kernel_rfl) (by kernel_rfl) ?_
      repeat (first | go_big_quiet_step (fail))
      refine wpQuiet_nil ?_
      rintro ⟨w2, hb⟩
      change Exit.then _ _ _ _ w2
      have HJ2 := (HJ.out.trans (hb.mono HJ.out.size))
      clear hb HJ
      go_wp2
      exact HX.out _ _ _ _ _ _ _ _ _ _ _ _ _ _ _ _ _ _ _ _ _ _ _ _ _ _ _ _ HJ2
    | succ m =>
      have hkm : ((m + 1 : Nat) : Int) - 1 = (m : Int) := by omega
      rw [hkm]
      clear hkm
      have hk0 : decide ((0 : Int) ≤ (m : Int)) = true := by simp
      have hmn : m < n := by have := HN.out; omega
      obtain ⟨yb, yo, rfl, hy0⟩ := rdL2 RC.out HN.out.1 HJ.out hmn
      have hz0 : wr.cell? ⟨yb, yo + k, none⟩ = some (.float .f32 (CB.getD k 0)) := by
        obtain ⟨b, o, e, h⟩ := rdL2 RC.out HN.out.1 HJ.out HN.out.2.1
        injection e with e; injection e with e1 e2 e3; subst e1; subst e2; exact h
      have HLT := hd (show m < n ∧ k < n ∧ n ≤ 100000 ∧ m ≤ k from ⟨hmn, HN.out.2.1, HN.out.2.2, by omega⟩)
      have hkn : (k : Int) < (n : Int) := by have := HN.out; omega
      have hmi : (m : Int) < (n : Int) := by omega
      have HH := hd (fun p : Bw wr => has_any (.slice AD CG.length cD) CG (m : Int) p.out ((RD.out.below (HJ.out.trans (p.below.mono HJ.out.size)) (Nat.le_refl _)).mono (HJ.out.trans (p.below.mono HJ.out.size)).size))
      obtain ⟨y, hy⟩ : ∃ y, y = CB.getD m 0 := ⟨_, rfl⟩
      obtain ⟨z, hz⟩ : ∃ z, z = CB.getD k 0 := ⟨_, rfl⟩
      rw [← hy] at hy0
      rw [← hz] at hz0
      have HYZ := hd (And.intro hy hz)
      clear hy hz hmn
      have FD2 : ∀ p : Bw wr, p.out.cell? ⟨C, 2, none⟩ = some (.slice (some ⟨yb, yo, none⟩) n cC) := fun p => p.cell (World.block_lt_of_cell? _ _ d2) d2
      have FD3 : ∀ p : Bw wr, p.out.cell? ⟨C, 3, none⟩ = some (.slice AD CG.length cD) := fun p => p.cell (World.block_lt_of_cell? _ _ d3) d3
      have FY : ∀ p : Bw wr, p.out.cell? ⟨yb, yo + m, none⟩ = some (.float .f32 y) := fun p => p.cell (World.block_lt_of_cell? _ _ hy0) hy0
      have FZ : ∀ p : Bw wr, p.out.cell? ⟨yb, yo + k, none⟩ = some (.float .f32 z) := fun p => p.cell (World.block_lt_of_cell? _ _ hz0) hz0
      clear d2 d3 hy0 hz0
      go_wp2_with fail
      refine wp_region_bw (by kernel_rfl) (by kernel_rfl) ?_
      repeat (first | go_big_quiet_step (fail))
      try rw [hk0]
      repeat (first | go_big_quiet_step (fail))
      go_big_quiet_step (first | (go_at_call 16; exact Bw.pure _ (HH.out _)))
      obtain ⟨hh, hhe⟩ : ∃ h, h = hasL CG (m : Int) := ⟨_, rfl⟩
      rw [← hhe]
      have HHE := hd hhe
      clear hhe HH
      cases hh
      · repeat (first | go_big_quiet_step (fail))
        obtain ⟨q, hq⟩ : ∃ q, q = feqL y z := ⟨_, rfl⟩
        rw [show (FloatKind.f32.format.order y z == some .eq) = q from hq.symm]
        have HQ := hd hq
        clear hq
        repeat (first | go_big_quiet_step (fail))
        refine wpQuiet_nil ?_
        rintro ⟨w2, hb⟩
        change Exit.then _ _ _ _ w2
        have HJ2 := hd (HJ.out.trans (hb.mono HJ.out.size))
        clear hb HJ FD2 FD3 FY FZ
        cases q
        · have he : s = s0 := by
            have h := HSUM.out
            unfold runU at h
            rw [← HHE.out, ← HYZ.out.1, ← HYZ.out.2, ← HQ.out] at h
            simpa using h
          subst he
          go_wp2
          exact HX.out _ _ _ _ _ _ _ _ _ _ _ _ _ _ _ _ _ _ _ _ _ _ _ _ _ _ _ _ HJ2.out
        · have HS2 : Hid (s + 1 + runU CB CG k m = s0) := hd (by
            have h := HSUM.out
            unfold runU at h
            rw [← HHE.out, ← HYZ.out.1, ← HYZ.out.2, ← HQ.out] at h
            simp at h; omega)
          have hs1 : s ≤ 100000 := by have := HLT.out; have := HS2.out; have := runU_le CB CG k (k + 1); have := HS0.out; omega
          have HWM := hd (show wrap64 ((m : Int) - 1) = (m : Int) - 1 from by have := HLT.out; unfold wrap64; omega)
          go_wp2
          go_roundw
          case rel => exact ⟨m, s + 1, by have := HLT.out; omega, by rw [HWM.out], by have := HLT.out; go_num, HS2.out, HJ2⟩
          case measure => have := HLT.out; rw [HWM.out]; simp [intOf]
      · repeat (first | go_big_quiet_step (fail))
        refine wpQuiet_nil ?_
        rintro ⟨w2, hb⟩
        change Exit.then _ _ _ _ w2
        have HJ2 := hd (HJ.out.trans (hb.mono HJ.out.size))
        clear hb HJ FD2 FD3 FY FZ
        have he : s = s0 := by
          have h := HSUM.out
          unfold runU at h
          rw [← HHE.out] at h
          simpa using h
        subst he
        go_wp2
        exact HX.out _ _ _ _ _ _ _ _ _ _ _ _ _ _ _ _ _ _ _ _ _ _ _ _ _ _ _ _ HJ2.out

/-- What the law asks of a level that is there, by one rule. -/
def Asked (CB : List Nat) (CG : List (Int × Int)) (k : Nat) (kd : ByteArray) (A B : Int) : Prop :=
  ((kd == sRange) = true ∧ A ≤ s16 (CB.getD k 0) ∧ s16 (CB.getD k 0) ≤ B) ∨
  ((kd == sRange) = false ∧ (kd == sJump) = true ∧ (0 ≤ A ∧ A ≤ 2048) ∧ (0 < k → hasL CG ((k : Int) - 1) = false → s16 (CB.getD k 0) - s16 (CB.getD (k - 1) 0) ≤ A ∧ -A ≤ s16 (CB.getD k 0) - s16 (CB.getD (k - 1) 0))) ∨
  ((kd == sRange) = false ∧ (kd == sJump) = false ∧ (kd == sStuck) = true ∧ (runU CB CG k (k + 1) : Int) ≤ A)
theorem s16_in {b : Nat} (h : chkLev b = 0) : -1024 ≤ s16 b ∧ s16 b ≤ 1024 := by
  have hok : levOK b = true := by rw [levOK_iff]; simpa using h
  exact (sixt_of hok).2
theorem sixt_run {b : Nat} (h : chkLev b = 0) : ∃ x y, floatToFloatBits .f32 b .f64 = some x ∧ floatBits .mul .f64 4625196817309499392 x = some y ∧ floatToIntVal .f64 y .i64 = some (s16 b) := by
  have hok : levOK b = true := by rw [levOK_iff]; simpa using h
  obtain ⟨hs, -, -⟩ := sixt_of hok
  have hM : ∃ s m e, FloatKind.f32.decode b = .number s m e ∧ magOf dbl m e ≤ 64 * oneU dbl := by
    unfold chkLev at h
    cases hd0 : FloatKind.f32.decode b with
    | nan s t => rw [hd0] at h; cases h
    | infinity s => rw [hd0] at h; cases h
    | number s m e =>
      rw [hd0] at h
      simp only at h
      split at h
      · rename_i hc; exact ⟨s, m, e, rfl, hc.2⟩
      · cases h
  obtain ⟨s, m, e, hd0, hM⟩ := hM
  obtain ⟨hf, he⟩ := f32_top hd0
  obtain ⟨x, y, L⟩ := levF_of hf he
  exact ⟨x, y, L.wide, L.big', (sixt_wide L hf he rfl hM).trans hs⟩

set_option maxRecDepth 1000000 in
set_option maxHeartbeats 8000000 in
theorem keeps_l2 (nm : ByteArray) (st : Int) (AC AD A3 : Option Addr) (cC cD cU n C k : Nat) (CB : List Nat) (CG : List (Int × Int)) (l : List Ru) (W w : World) (Q0 : Exit → Act → World → Prop)
    (HC : Hid (W.heap[C]? = some (.cells #[.string nm, .int .i64 st, .slice AC n cC, .slice AD CG.length cD] 35 (0, 0)))) (RC : Hid (Rd W W.heap.size (.slice AC n cC) n (flc CB))) (RD : Hid (Rd W W.heap.size (.slice AD CG.length cD) CG.length (spc CG))) (RU : Hid (Rd W W.heap.size (.slice A3 l.length cU) l.length (ruc l)))
    (HN : Hid (CB.length = n ∧ k < n ∧ n ≤ 100000 ∧ l.length ≤ 100000)) (HV : Hid (∀ j, j < n → chkLev (CB.getD j 0) = 0)) (HASK : Hid (∀ q, q < l.length → Asked CB CG k (l.getD q ru0).1 (l.getD q ru0).2.1 (l.getD q ru0).2.2)) (HJ0 : Hid (Below W.heap.size W w))
    {c0 c1 c2 c3 c4 c5 c6 c8 c9 c10 c11 c12 c14 c15 c16 c18 c19 c20 c21 c22 c23 c24 c25 c26 c27 c28 c29 c30 c31 c32 c33 c34 c35 c36 c37 c38 c39 c40 c41 c42 c43 c44 c45 c46 c47 c48 c49 c50 c51 c52 c53 c54 c55 c56 c57 c58 c59 c60 c61 c62 c63 c64 c65 c66 c67 c68 c69 c70 c71 c72 c73 c74 c75 c76 c77 c78 c79 c80 c81 c82 c83 c84 c85 c86 c87 c88 c89 c90 c91 c92 c93 c94 c95 c96 c97 c98 c99 c100 c101 c102 c103 c104 c105 c106 c107 c108 c109 c110 c111 c112 c113 c114 c115 c116 c117 c118 c119 c120 c121 c122 c123 c124 c125 c126 c127 c128 c129 c130 c131 c132 c133 c134 c135 c136 c137 c138 c139 c140 c141 c142 c143 c144 c145 c146 c147 c148 c149 c150 c151 c152 c153 c154 c155 c156 c157 c158 c159 c160 c161 c162 c163 c164 c165 c166 c167 c168 c169 c170 c171 c172 c173 c174 c175 c176 c177 c178 c179 c180 c181 c182 c183 c184 c185 c186 c187 c188 c189 c190 c191 c192 c193 c194 c195 c196 c197 c198 c199 c200 c201 c202 c203 c204 c205 c206 c207 c208 c209 c210 c211 c212 c213 c214 c215 c216 c217 c218 c219 c220 c221 c222 c223 c224 c228 c229 c230 c231 c232 c233 c234 c235 c236 c237 c238 c239 c240 c241 c242 c243 c244 c245 c246 c247 c248 c249 c250 c251 c252 c253 c254 c255 c256 c257 c258 c259 c260 c261 c262 c263 c264 c265 c266 c267 c268 c269 c270 c271 c272 c273 c274 c275 c276 c277 c278 c279 c280 c281 c282 c283 c284 c285 c286 c287 c288 c289 c290 c291 c292 c293 c294 c295 c296 c297 c298 c299 c300 c301 c302 c303 c304 c305 c306 c307 c308 c309 c310 c311 c312 c313 c314 c315 c316 c317 c318 c319 c320 c321 c322 c323 c324 c325 c326 c327 c328 c329 c330 c331 c332 c333 c334 c335 c336 c337 c338 c339 c340 c341 c342 c343 c344 c345 c346 c347 c348 c349 c350 c351 c352 c353 c354 c355 c356 c357 c358 c359 c360 c361 c362 c363 c364 c365 c366 c367 c368 c369 c370 c371 c372 c373 c374 c375 c376 c377 c378 c379 : Value}
    (hexit : ∀ (u4 u19 u20 u21 u22 u227 u228 u229 u230 u231 u232 u233 u234 u235 u236 u237 u238 u239 u240 u241 u242 u243 u244 u245 u246 u247 u248 u249 u250 u251 u252 u253 u254 u255 u256 u257 u258 u259 u260 u261 u262 u263 u264 u265 u266 u267 u268 u269 u270 u271 u272 u273 u274 u275 u276 u277 u278 u279 u280 u281 u282 u283 u284 u285 u286 u287 u288 u289 u290 u291 u292 u293 u294 u295 u296 u297 u298 u299 u300 u301 u302 u303 u304 u305 u306 u307 u308 u309 u310 u311 u312 : Value) (w' : World), Below W.heap.size W w' → Q0 (.exit 2) ⟨List.toArray (c0 :: c1 :: c2 :: c3 :: u4 :: c5 :: c6 :: .pointer (some ⟨C, 0, none⟩) :: c8 :: c9 :: c10 :: c11 :: c12 :: .int .i64 k :: c14 :: c15 :: c16 :: .int .i64 (s16 (CB.getD k 0)) :: c18 :: u19 :: u20 :: u21 :: u22 :: c23 :: c24 :: c25 :: c26 :: c27 :: c28 :: c29 :: c30 :: c31 :: c32 :: c33 :: c34 :: c35 :: c36 :: c37 :: c38 :: c39 :: c40 :: c41 :: c42 :: c43 :: c44 :: c45 :: c46 :: c47 :: c48 :: c49 :: c50 :: c51 :: c52 :: c53 :: c54 :: c55 :: c56 :: c57 :: c58 :: c59 :: c60 :: c61 :: c62 :: c63 :: c64 :: c65 :: c66 :: c67 :: c68 :: c69 :: c70 :: c71 :: c72 :: c73 :: c74 :: c75 :: c76 :: c77 :: c78 :: c79 :: c80 :: c81 :: c82 :: c83 :: c84 :: c85 :: c86 :: c87 :: c88 :: c89 :: c90 :: c91 :: c92 :: c93 :: c94 :: c95 :: c96 :: c97 :: c98 :: c99 :: c100 :: c101 :: c102 :: c103 :: c104 :: c105 :: c106 :: c107 :: c108 :: c109 :: c110 :: c111 :: c112 :: c113 :: c114 :: c115 :: c116 :: c117 :: c118 :: c119 :: c120 :: c121 :: c122 :: c123 :: c124 :: c125 :: c126 :: c127 :: c128 :: c129 :: c130 :: c131 :: c132 :: c133 :: c134 :: c135 :: c136 :: c137 :: c138 :: c139 :: c140 :: c141 :: c142 :: c143 :: c144 :: c145 :: c146 :: c147 :: c148 :: c149 :: c150 :: c151 :: c152 :: c153 :: c154 :: c155 :: c156 :: c157 :: c158 :: c159 :: c160 :: c161 :: c162 :: c163 :: c164 :: c165 :: c166 :: c167 :: c168 :: c169 :: c170 :: c171 :: c172 :: c173 :: c174 :: c175 :: c176 :: c177 :: c178 :: c179 :: c180 :: c181 :: c182 :: c183 :: c184 :: c185 :: c186 :: c187 :: c188 :: c189 :: c190 :: c191 :: c192 :: c193 :: c194 :: c195 :: c196 :: c197 :: c198 :: c199 :: c200 :: c201 :: c202 :: c203 :: c204 :: c205 :: c206 :: c207 :: c208 :: c209 :: c210 :: c211 :: c212 :: c213 :: c214 :: c215 :: c216 :: c217 :: c218 :: c219 :: c220 :: c221 :: c222 :: c223 :: c224 :: .slice A3 l.length cU :: .int .i64 l.length :: u227 :: u228 :: u229 :: u230 :: u231 :: u232 :: u233 :: u234 :: u235 :: u236 :: u237 :: u238 :: u239 :: u240 :: u241 :: u242 :: u243 :: u244 :: u245 :: u246 :: u247 :: u248 :: u249 :: u250 :: u251 :: u252 :: u253 :: u254 :: u255 :: u256 :: u257 :: u258 :: u259 :: u260 :: u261 :: u262 :: u263 :: u264 :: u265 :: u266 :: u267 :: u268 :: u269 :: u270 :: u271 :: u272 :: u273 :: u274 :: u275 :: u276 :: u277 :: u278 :: u279 :: u280 :: u281 :: u282 :: u283 :: u284 :: u285 :: u286 :: u287 :: u288 :: u289 :: u290 :: u291 :: u292 :: u293 :: u294 :: u295 :: u296 :: u297 :: u298 :: u299 :: u300 :: u301 :: u302 :: u303 :: u304 :: u305 :: u306 :: u307 :: u308 :: u309 :: u310 :: u311 :: u312 :: c313 :: c314 :: c315 :: c316 :: c317 :: c318 :: c319 :: c320 :: c321 :: c322 :: c323 :: c324 :: c325 :: c326 :: c327 :: c328 :: c329 :: c330 :: c331 :: c332 :: c333 :: c334 :: c335 :: c336 :: c337 :: c338 :: c339 :: c340 :: c341 :: c342 :: c343 :: c344 :: c345 :: c346 :: c347 :: c348 :: c349 :: c350 :: c351 :: c352 :: c353 :: c354 :: c355 :: c356 :: c357 :: c358 :: c359 :: c360 :: c361 :: c362 :: c363 :: c364 :: c365 :: c366 :: c367 :: c368 :: c369 :: c370 :: c371 :: c372 :: c373 :: c374 :: c375 :: c376 :: c377 :: c378 :: c379 :: []), []⟩ w') :
    Code.wp Tryz.prog (Code.loop kL2) Q0 ⟨List.toArray (c0 :: c1 :: c2 :: c3 :: c4 :: c5 :: c6 :: .pointer (some ⟨C, 0, none⟩) :: c8 :: c9 :: c10 :: c11 :: c12 :: .int .i64 k :: c14 :: c15 :: c16 :: .int .i64 (s16 (CB.getD k 0)) :: c18 :: c19 :: c20 :: c21 :: c22 :: c23 :: c24 :: c25 :: c26 :: c27 :: c28 :: c29 :: c30 :: c31 :: c32 :: c33 :: c34 :: c35 :: c36 :: c37 :: c38 :: c39 :: c40 :: c41 :: c42 :: c43 :: c44 :: c45 :: c46 :: c47 :: c48 :: c49 :: c50 :: c51 :: c52 :: c53 :: c54 :: c55 :: c56 :: c57 :: c58 :: c59 :: c60 :: c61 :: c62 :: c63 :: c64 :: c65 :: c66 :: c67 :: c68 :: c69 :: c70 :: c71 :: c72 :: c73 :: c74 :: c75 :: c76 :: c77 :: c78 :: c79 :: c80 :: c81 :: c82 :: c83 :: c84 :: c85 :: c86 :: c87 :: c88 :: c89 :: c90 :: c91 :: c92 :: c93 :: c94 :: c95 :: c96 :: c97 :: c98 :: c99 :: c100 :: c101 :: c102 :: c103 :: c104 :: c105 :: c106 :: c107 :: c108 :: c109 :: c110 :: c111 :: c112 :: c113 :: c114 :: c115 :: c116 :: c117 :: c118 :: c119 :: c120 :: c121 :: c122 :: c123 :: c124 :: c125 :: c126 :: c127 :: c128 :: c129 :: c130 :: c131 :: c132 :: c133 :: c134 :: c135 :: c136 :: c137 :: c138 :: c139 :: c140 :: c141 :: c142 :: c143 :: c144 :: c145 :: c146 :: c147 :: c148 :: c149 :: c150 :: c151 :: c152 :: c153 :: c154 :: c155 :: c156 :: c157 :: c158 :: c159 :: c160 :: c161 :: c162 :: c163 :: c164 :: c165 :: c166 :: c167 :: c168 :: c169 :: c170 :: c171 :: c172 :: c173 :: c174 :: c175 :: c176 :: c177 :: c178 :: c179 :: c180 :: c181 :: c182 :: c183 :: c184 :: c185 :: c186 :: c187 :: c188 :: c189 :: c190 :: c191 :: c192 :: c193 :: c194 :: c195 :: c196 :: c197 :: c198 :: c199 :: c200 :: c201 :: c202 :: c203 :: c204 :: c205 :: c206 :: c207 :: c208 :: c209 :: c210 :: c211 :: c212 :: c213 :: c214 :: c215 :: c216 :: c217 :: c218 :: c219 :: c220 :: c221 :: c222 :: c223 :: c224 :: .slice A3 l.length cU :: .int .i64 l.length :: .int .i64 0 :: c228 :: c229 :: c230 :: c231 :: c232 :: c233 :: c234 :: c235 :: c236 :: c237 :: c238 :: c239 :: c240 :: c241 :: c242 :: c243 :: c244 :: c245 :: c246 :: c247 :: c248 :: c249 :: c250 :: c251 :: c252 :: c253 :: c254 :: c255 :: c256 :: c257 :: c258 :: c259 :: c260 :: c261 :: c262 :: c263 :: c264 :: c265 :: c266 :: c267 :: c268 :: c269 :: c270 :: c271 :: c272 :: c273 :: c274 :: c275 :: c276 :: c277 :: c278 :: c279 :: c280 :: c281 :: c282 :: c283 :: c284 :: c285 :: c286 :: c287 :: c288 :: c289 :: c290 :: c291 :: c292 :: c293 :: c294 :: c295 :: c296 :: c297 :: c298 :: c299 :: c300 :: c301 :: c302 :: c303 :: c304 :: c305 :: c306 :: c307 :: c308 :: c309 :: c310 :: c311 :: c312 :: c313 :: c314 :: c315 :: c316 :: c317 :: c318 :: c319 :: c320 :: c321 :: c322 :: c323 :: c324 :: c325 :: c326 :: c327 :: c328 :: c329 :: c330 :: c331 :: c332 :: c333 :: c334 :: c335 :: c336 :: c337 :: c338 :: c339 :: c340 :: c341 :: c342 :: c343 :: c344 :: c345 :: c346 :: c347 :: c348 :: c349 :: c350 :: c351 :: c352 :: c353 :: c354 :: c355 :: c356 :: c357 :: c358 :: c359 :: c360 :: c361 :: c362 :: c363 :: c364 :: c365 :: c366 :: c367 :: c368 :: c369 :: c370 :: c371 :: c372 :: c373 :: c374 :: c375 :: c376 :: c377 :: c378 :: c379 :: []), []⟩ w := by
  conv => arg 2; arg 1; whnf
  obtain ⟨a, ha⟩ : ∃ a, a = s16 (CB.getD k 0) := ⟨_, rfl⟩
  rw [← ha] at hexit ⊢
  have HA := hd ha
  clear ha
  have HX := hd hexit
  clear hexit
  go_loopw [227] (fun s227 wr => ∃ q : Nat, q ≤ l.length ∧ s227 = .int .i64 q ∧ Hid (Below W.heap.size W wr)) (fun s227 _ => l.length - (intOf s227).toNat)
  case atStart => exact ⟨0, Nat.zero_le _, rfl, HJ0⟩
  case round =>
    obtain ⟨q, hq, rfl, HJ⟩ := hrel
    by_cases hlt : q < l.length
    · have HLT := hd (show q < l.length ∧ l.length ≤ 100000 from ⟨hlt, HN.out.2.2.2⟩)
      have hqi : (q : Int) < (l.length : Int) := by omega
      have hql : l.length ≤ 100000 := HN.out.2.2.2
      obtain ⟨A3', c3', e3, -, -, hrow⟩ := RU.out
      injection e3 with e3a e3b e3c; subst e3a; subst e3c
      obtain ⟨rb, ro, rfl, hbb, hcell⟩ := hrow (by omega)
      obtain ⟨q0, q1, q2⟩ := ruc_getD l q hlt
      have hs0 := (HJ.out.cell (p := ⟨rb, _, none⟩) hbb).trans ((hcell (q * 3) (by rw [ruc_len]; omega)).trans q0)
      have hs1 := (HJ.out.cell (p := ⟨rb, _, none⟩) hbb).trans ((hcell (q * 3 + 1) (by rw [ruc_len]; omega)).trans q1)
      have hs2 := (HJ.out.cell (p := ⟨rb, _, none⟩) hbb).trans ((hcell (q * 3 + 2) (by rw [ruc_len]; omega)).trans q2)
      rw [← Nat.add_assoc] at hs1 hs2
      have ask := HASK.out q hlt
      clear hcell q0 q1 q2 hbb hrow
      generalize (l.getD q ru0).1 = kd at *
      generalize (l.getD q ru0).2.1 = A at *
      generalize (l.getD q ru0).2.2 = B at *
      have HJ2 := hd (HJ.out.alloc HJ.out.size (Obj.cells #[.string kd, .int .i64 A, .int .i64 B] 47))
      rcases ask with ⟨g1, h1, h2⟩ | ⟨g1, g2, hA, hj⟩ | ⟨g1, g2, g3, hst⟩
      · have e1 : (kd.toList == [114, 97, 110, 103, 101]) = true := str_eq kd #[114, 97, 110, 103, 101] true g1
        rw [← HA.out] at h1 h2
        have f1 : ¬ a < A := by omega
        have f2 : ¬ B < a := by omega
        clear g1 h1 h2 hlt
        go_wp2
        go_roundw
        case rel => exact ⟨q + 1, by have := HLT.out; omega, by have := HLT.out; go_num, HJ2⟩
        case measure => have := HLT.out; simp [intOf]; omega
      · have e1 : (kd.toList == [114, 97, 110, 103, 101]) = false := str_eq kd #[114, 97, 110, 103, 101] false g1
        have e2 : (kd.toList == [106, 117, 109, 112]) = true := str_eq kd #[106, 117, 109, 112] true g2
        clear g1 g2
        have hb0 := (HJ.out.block _ (blk_lt HC.out)).trans HC.out
        have hCl := blk_lt hb0
        have d2 := blk_cell hb0 2
        have d3 := blk_cell hb0 3
        simp at d2 d3
        clear hb0
        have hkn : k < n := HN.out.2.1
        have hnn : n ≤ 100000 := HN.out.2.2.1
        by_cases hk0 : 0 < k
        · have hk1 : (0 : Int) < (k : Int) := by omega
          obtain ⟨yb, yo, rfl, hy0⟩ := rdL2 RC.out HN.out.1 HJ.out (show k - 1 < n by omega)
          have hyl := World.block_lt_of_cell? _ _ hy0
          have hj := hj hk0
          rw [← HA.out] at hj
          obtain ⟨x8, y8, v1, v2, v3⟩ := sixt_run (HV.out (k - 1) (by omega))
          obtain ⟨b1, b2⟩ := s16_in (HV.out (k - 1) (by omega))
          obtain ⟨a1, a2⟩ := s16_in (HV.out k hkn)
          rw [← HA.out] at a1 a2
          obtain ⟨y, hy⟩ : ∃ y, y = CB.getD (k - 1) 0 := ⟨_, rfl⟩
          rw [← hy] at hy0 hj v1 v3 b1 b2
          clear hy
          obtain ⟨z, hz⟩ : ∃ z, z = s16 y := ⟨_, rfl⟩
          rw [← hz] at hj v3 b1 b2
          clear hz
          have hc1 := fun w => run_convert_float_float (P := Tryz.prog) w 44 45 .f32 .f64 y x8 (by kernel_rfl) Tryz.underlying45 v1
          have hc2 := fun w => run_float_arith (P := Tryz.prog) w .mul 45 .f64 4625196817309499392 x8 y8 v2
          have hc3 := fun w => run_convert_float_int (P := Tryz.prog) w 45 3 .f64 .i64 y8 z (by kernel_rfl) Tryz.underlying3 v3
          clear v1 v2 v3 hlt
          obtain ⟨hA0, hA1⟩ := hA
          go_wp2_with fail
          refine (has_any (.slice AD CG.length cD) CG ((k : Int) - 1) _ ((RD.out.below HJ2.out (Nat.le_refl _)).mono HJ2.out.size)).mono ?_
          obtain ⟨hh, hhe⟩ : ∃ h, h = hasL CG ((k : Int) - 1) := ⟨_, rfl⟩
          rw [← hhe] at hj ⊢
          clear hhe
          rintro e w2 ⟨rfl, rfl⟩
          cases hh
          · obtain ⟨j1, j2⟩ := hj rfl
            have f1 : ¬ A < a - z := by omega
            have f2 : ¬ a - z < -A := by omega
            clear hj j1 j2
            go_wp2
            go_roundw
            case rel => exact ⟨q + 1, by have := HLT.out; omega, by have := HLT.out; go_num, HJ2⟩
            case measure => have := HLT.out; simp [intOf]; omega
          · clear hj
            go_wp2
            go_roundw
            case rel => exact ⟨q + 1, by have := HLT.out; omega, by have := HLT.out; go_num, HJ2⟩
            case measure => have := HLT.out; simp [intOf]; omega
        · have hk1 : ¬ (0 : Int) < (k : Int) := by omega
          clear hj hA hlt
          go_wp2
          go_roundw
          case rel => exact ⟨q + 1, by have := HLT.out; omega, by have := HLT.out; go_num, HJ2⟩
          case measure => have := HLT.out; simp [intOf]; omega
      · have e1 : (kd.toList == [114, 97, 110, 103, 101]) = false := str_eq kd #[114, 97, 110, 103, 101] false g1
        have e2 : (kd.toList == [106, 117, 109, 112]) = false := str_eq kd #[106, 117, 109, 112] false g2
        have e3 : (kd.toList == [115, 116, 117, 99, 107]) = true := str_eq kd #[115, 116, 117, 99, 107] true g3
        clear g1 g2 g3 hlt
        have HST := hd hst
        clear hst
        go_wp2_with fail
        have HY := hd (blk_new wr #[.string kd, .int .i64 A, .int .i64 B] 47)
        generalize wr.alloc (Obj.cells #[.string kd, .int .i64 A, .int .i64 B] 47) = w2 at *
        generalize wr.heap.size = Y at *
        have HC2 := hd ((HJ2.out.block _ (blk_lt HC.out)).trans HC.out)
        have RC2 := hd ((RC.out.below HJ2.out (Nat.le_refl _)).mono HJ2.out.size)
        have RD2 := hd ((RD.out.below HJ2.out (Nat.le_refl _)).mono HJ2.out.size)
        refine keeps_l3 nm st AC AD cC cD n C k CB CG _ _ _ HC2 RC2 RD2 (hd ⟨HN.out.1, HN.out.2.1, HN.out.2.2.1⟩) (hd (Below.refl _ _)) ?_
        intro u22 u282 u283 u284 u285 u286 u287 u288 u289 u290 u291 u292 u293 u294 u295 u296 u297 u298 u299 u300 u301 u302 u303 u304 u305 u306 u307 w5 hb5
        have y1 := blk_cell ((hb5.block _ (blk_lt HY.out)).trans HY.out) 1
        simp at y1
        have HJ5 := hd (HJ2.out.trans (hb5.mono HJ2.out.size))
        clear hb5 HC2 RC2 RD2 HY HJ2 HJ
        have hst := HST.out
        generalize runU CB CG k (k + 1) = r at hst ⊢
        have f1 : ¬ A < (r : Int) := by omega
        clear hst HST
        go_wp2
        go_roundw
        case rel => exact ⟨q + 1, by have := HLT.out; omega, by have := HLT.out; go_num, HJ5⟩
        case measure => have := HLT.out; simp [intOf]; omega
    · have hqi : ¬ (q : Int) < (l.length : Int) := by omega
      skip
      go_wp2
      skip
      exact HX.out _ _ _ _ _ _ _ _ _ _ _ _ _ _ _ _ _ _ _ _ _ _ _ _ _ _ _ _ _ _ _ _ _ _ _ _ _ _ _ _ _ _ _ _ _ _ _ _ _ _ _ _ _ _ _ _ _ _ _ _ _ _ _ _ _ _ _ _ _ _ _ _ _ _ _ _ _ _ _ _ _ _ _ _ _ _ _ _ _ _ _ _ HJ.out
end Go.Proofs.YtfmmmpmdnfpofaaGreatDoor
