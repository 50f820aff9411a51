/-
  Contract of the reference's Vote. Conditions: three valid records with the same number of levels, a tolerance from 0 to 2048.
-/
import Derived.Test.YtbmeadlamjppgaaGreatDoorProg
import Derived.Test.YtbmeadlamjppgaaGreatDoorD3
import Derived.Deep.RegionHeld3
import Derived.Deep.Cut
namespace Go.Proofs.YtbmeadlamjppgaaGreatDoor
open Go.RowKit
attribute [local go_sem] Oper.semAt_some

/-- What holds between the rounds of the reference's Vote. -/
structure VR (M O R L n : Nat) (w : World) (REC : Array Value) (nm : ByteArray) (st : Int) (LS MS : List Value) (D : Array Value) (W : World) : Prop where
  out : W.heap[R]? = some (.cells #[.string nm, .int .i64 st, .slice (some ⟨L, 0, none⟩) n n, .slice none 0 0] 25 (0, 0))
  lev : W.ownsRow (w.heap.size + 4) 43 1 (.slice (some ⟨L, 0, none⟩) n n) n LS
  the : W.ownsRow (w.heap.size + 4) 4 1 (.slice (some ⟨M, 0, none⟩) n n) n MS
  off : W.heap[O]? = some (.cells D 30 (0, 0))
  ofs : O = w.heap.size + 3
  arr : W.heap[w.heap.size]? = some (.cells REC 26 (0, 0))
  res : W.heap[w.heap.size + 1]? = some (.cells #[.string ⟨#[]⟩, .int .i64 0, .slice none 0 0, .slice none 0 0] 25 (0, 0))
  re2 : W.heap[w.heap.size + 2]? = some (.cells #[.int .i64 0, .int .i64 0, .int .i64 0] 30 (0, 0))
  big : w.heap.size + 3 < R
  bel : Below w.heap.size w W
theorem new_oneC (w : World) (a : Value) (T : TypeId) : ∀ j u, [a][j]? = some u → (w.alloc (.cells #[a] T)).cell? ((⟨w.heap.size, 0, none⟩ : Addr).add j) = some u := by
  intro j u hj
  match j, hj with
  | 0, hj => simp at hj; subst hj; simp [Addr.add, World.cell?_alloc_new]
theorem own_low {W : World} {B e s k X : Nat} {v : Value} {xs : List Value} (h : W.ownsRow B e s v k xs) (hX : X < B) : v.ownBlock = none ∨ v.ownBlock ≠ some X := by
  cases hq : v.ownBlock with
  | none => exact .inl rfl
  | some g => exact .inr (fun e => by cases e; have := (h.lt _ hq).1; omega)
section
variable {M O R L n : Nat} {w : World} {REC : Array Value} {nm : ByteArray} {st : Int} {LS MS : List Value} {D : Array Value} {W W' : World}
theorem VR.below (h : VR M O R L n w REC nm st LS MS D W) (hb : Below W.heap.size W W') : VR M O R L n w REC nm st LS MS D W' :=
  ⟨(hb.block _ (blk_lt h.out)).trans h.out, own_bel h.lev hb, own_bel h.the hb, (hb.block _ (blk_lt h.off)).trans h.off, h.ofs, (hb.block _ (blk_lt h.arr)).trans h.arr, (hb.block _ (blk_lt h.res)).trans h.res, (hb.block _ (blk_lt h.re2)).trans h.re2, h.big, h.bel.trans (hb.mono h.bel.size)⟩
theorem VR.drew (h : VR M O R L n w REC nm st LS MS D W) : VR M O R L n w REC nm st LS MS D W.drew := ⟨h.out, h.lev, h.the, h.off, h.ofs, h.arr, h.res, h.re2, h.big, h.bel.drew⟩
theorem VR.setL (h : VR M O R L n w REC nm st LS MS D W) (i : Nat) (u : Value) : VR M O R L n w REC nm st (LS.set i u) MS D (W.setCell ⟨L, i, none⟩ u) := by
  have hL := (h.lev.lt L rfl).1
  have hne : R ≠ L := fun h' => by
    have h1 := own_box h.lev h.out (by decide)
    rcases h1 with h1 | h1
    · cases h1
    · exact h1 (by rw [h']; rfl)
  exact ⟨(Below.heap_setCell _ ⟨L, i, none⟩ _ R hne).trans h.out, (h.lev.stored i u).1, own_far h.the (own_types h.the h.lev (by decide)), (Below.heap_setCell _ ⟨L, i, none⟩ _ _ (by have := h.ofs; show O ≠ L; omega)).trans h.off, h.ofs, (Below.heap_setCell _ ⟨L, i, none⟩ _ _ (by show w.heap.size ≠ L; omega)).trans h.arr,
    (Below.heap_setCell _ ⟨L, i, none⟩ _ _ (by show w.heap.size + 1 ≠ L; omega)).trans h.res, (Below.heap_setCell _ ⟨L, i, none⟩ _ _ (by show w.heap.size + 2 ≠ L; omega)).trans h.re2, h.big, h.bel.setCell (p := ⟨L, i, none⟩) (by show w.heap.size ≤ L; omega) _⟩
theorem VR.setM (h : VR M O R L n w REC nm st LS MS D W) (i : Nat) (u : Value) : VR M O R L n w REC nm st LS (MS.set i u) D (W.setCell ⟨M, i, none⟩ u) := by
  have hL := (h.the.lt M rfl).1
  have hne : R ≠ M := fun h' => by
    have h1 := own_box h.the h.out (by decide)
    rcases h1 with h1 | h1
    · cases h1
    · exact h1 (by rw [h']; rfl)
  exact ⟨(Below.heap_setCell _ ⟨M, i, none⟩ _ R hne).trans h.out, own_far h.lev (own_types h.lev h.the (by decide)), (h.the.stored i u).1, (Below.heap_setCell _ ⟨M, i, none⟩ _ _ (by have := h.ofs; show O ≠ M; omega)).trans h.off, h.ofs, (Below.heap_setCell _ ⟨M, i, none⟩ _ _ (by show w.heap.size ≠ M; omega)).trans h.arr,
    (Below.heap_setCell _ ⟨M, i, none⟩ _ _ (by show w.heap.size + 1 ≠ M; omega)).trans h.res, (Below.heap_setCell _ ⟨M, i, none⟩ _ _ (by show w.heap.size + 2 ≠ M; omega)).trans h.re2, h.big, h.bel.setCell (p := ⟨M, i, none⟩) (by show w.heap.size ≤ M; omega) _⟩
theorem VR.setD (h : VR M O R L n w REC nm st LS MS D W) (i : Nat) (u : Value) : VR M O R L n w REC nm st LS MS (D.setIfInBounds i u) (W.setCell ⟨O, i, none⟩ u) := by
  have hR := h.big
  have hO := h.ofs
  exact ⟨(Below.heap_setCell _ ⟨O, i, none⟩ _ R (by show R ≠ O; omega)).trans h.out, own_far h.lev (own_low h.lev (by omega)), own_far h.the (own_low h.the (by omega)), blk_set h.off i u, h.ofs, (Below.heap_setCell _ ⟨O, i, none⟩ _ _ (by show w.heap.size ≠ O; omega)).trans h.arr,
    (Below.heap_setCell _ ⟨O, i, none⟩ _ _ (by show w.heap.size + 1 ≠ O; omega)).trans h.res, (Below.heap_setCell _ ⟨O, i, none⟩ _ _ (by show w.heap.size + 2 ≠ O; omega)).trans h.re2, h.big, h.bel.setCell (p := ⟨O, i, none⟩) (by show w.heap.size ≤ O; omega) _⟩
end
/-- What holds ahead of the result's record. -/
structure VB (M O n : Nat) (w : World) (REC : Array Value) (MS : List Value) (D : Array Value) (W : World) : Prop where
  the : W.ownsRow (w.heap.size + 4) 4 1 (.slice (some ⟨M, 0, none⟩) n n) n MS
  off : W.heap[O]? = some (.cells D 30 (0, 0))
  ofs : O = w.heap.size + 3
  arr : W.heap[w.heap.size]? = some (.cells REC 26 (0, 0))
  res : W.heap[w.heap.size + 1]? = some (.cells #[.string ⟨#[]⟩, .int .i64 0, .slice none 0 0, .slice none 0 0] 25 (0, 0))
  re2 : W.heap[w.heap.size + 2]? = some (.cells #[.int .i64 0, .int .i64 0, .int .i64 0] 30 (0, 0))
  siz : w.heap.size + 4 ≤ W.heap.size
  bel : Below w.heap.size w W
theorem vr_stored {M O R L n b : Nat} {w W V : World} {REC : Array Value} {nm : ByteArray} {st : Int} {LS MS : List Value} {D : Array Value} (h : VB M O n w REC MS D W) (hV : Below W.heap.size W V) {z0 z1 z2 z3 : Value} (hR : V.heap[R]? = some (.cells #[z0, z1, z2, z3] 25 (0, 0))) (hb : W.heap.size ≤ R)
    (hl : V.ownsRow b 43 1 (.slice (some ⟨L, 0, none⟩) n n) n LS) (hb1 : W.heap.size ≤ b) : VR M O R L n w REC nm st LS MS D (set4 V R (.string nm) (.int .i64 st) (.slice (some ⟨L, 0, none⟩) n n) (.slice none 0 0)) := by
  have h1 := h.siz
  have h2 := h.ofs
  exact ⟨set4_blk hR _ _ _ _, own_base (own_far4 hl (own_box hl hR (by decide))) (by omega), own_far4 (own_bel h.the hV) (own_box (own_bel h.the hV) hR (by decide)), (set4_other V (R := R) (D := O) (by omega) _ _ _ _).trans ((hV.block _ (by omega)).trans h.off), h2,
    (set4_other V (R := R) (D := w.heap.size) (by omega) _ _ _ _).trans ((hV.block _ (by omega)).trans h.arr), (set4_other V (R := R) (D := w.heap.size + 1) (by omega) _ _ _ _).trans ((hV.block _ (by omega)).trans h.res), (set4_other V (R := R) (D := w.heap.size + 2) (by omega) _ _ _ _).trans ((hV.block _ (by omega)).trans h.re2), by omega, set4_below (h.bel.trans (hV.mono h.bel.size)) (R := R) (by omega) _ _ _ _⟩
theorem vr_alloc {M O L n b : Nat} {w W V : World} {REC : Array Value} {nm : ByteArray} {st : Int} {LS MS : List Value} {D : Array Value} (h : VB M O n w REC MS D W) (hV : Below W.heap.size W V)
    (hl : V.ownsRow b 43 1 (.slice (some ⟨L, 0, none⟩) n n) n LS) (hb1 : W.heap.size ≤ b) : VR M O V.heap.size L n w REC nm st LS MS D (V.alloc (.cells #[.string nm, .int .i64 st, .slice (some ⟨L, 0, none⟩) n n, .slice none 0 0] 25)) := by
  have h1 := h.siz
  have h2 := h.ofs
  have h3 := hV.size
  exact ⟨blk_new _ _ _, own_base (hl.alloc _) (by omega), (own_bel h.the hV).alloc _, (Below.heap_alloc _ _ _ (by omega)).trans ((hV.block _ (by omega)).trans h.off), h2,
    (Below.heap_alloc _ _ _ (by omega)).trans ((hV.block _ (by omega)).trans h.arr), (Below.heap_alloc _ _ _ (by omega)).trans ((hV.block _ (by omega)).trans h.res), (Below.heap_alloc _ _ _ (by omega)).trans ((hV.block _ (by omega)).trans h.re2), by omega, (h.bel.trans (hV.mono h.bel.size)).alloc (by omega) _⟩
/-- The numbers of deviations behind m of the three gauges of index i. -/
def rD (bs : Nat → List Nat) (gs : Nat → List (Int × Int)) (tol : Int) (i m : Nat) : Array Value := #[.int .i64 (rCnt bs gs tol 0 i + (if decide (0 < m) && rDev bs gs tol i 0 then 1 else 0)), .int .i64 (rCnt bs gs tol 1 i + (if decide (1 < m) && rDev bs gs tol i 1 then 1 else 0)), .int .i64 (rCnt bs gs tol 2 i + (if decide (2 < m) && rDev bs gs tol i 2 then 1 else 0))]
theorem rD_zero (bs : Nat → List Nat) (gs : Nat → List (Int × Int)) (tol : Int) (i : Nat) : rD bs gs tol i 0 = #[.int .i64 (rCnt bs gs tol 0 i), .int .i64 (rCnt bs gs tol 1 i), .int .i64 (rCnt bs gs tol 2 i)] := by simp [rD]
theorem rD_three (bs : Nat → List Nat) (gs : Nat → List (Int × Int)) (tol : Int) (i : Nat) : rD bs gs tol i 3 = rD bs gs tol (i + 1) 0 := by simp [rD, rCnt]
theorem rD_no {bs : Nat → List Nat} {gs : Nat → List (Int × Int)} {tol : Int} {i : Nat} (h : (rvI bs gs tol i).2 = false) : rD bs gs tol (i + 1) 0 = rD bs gs tol i 0 := by simp [rD, rCnt, rDev, h]
theorem rSk_in {bs : Nat → List Nat} {gs : Nat → List (Int × Int)} {i : Nat} (h : ∀ g, g < 3 → chkLev ((bs g).getD i 0) = 0) : ∀ x ∈ rSk bs gs i 3, -1024 ≤ x ∧ x ≤ 1024 := by
  intro x hx
  unfold rSk at hx
  obtain ⟨g, hg, rfl⟩ := List.mem_map.1 hx
  rw [List.mem_filter, List.mem_range] at hg
  exact s16_in (h g hg.1)
theorem rvt_in {l : List Int} {tol : Int} (hb : ∀ x ∈ l, -1024 ≤ x ∧ x ≤ 1024) (hv : (rvt l tol).2 = true) : -1024 ≤ (rvt l tol).1 ∧ (rvt l tol).1 ≤ 1024 := by
  match l, hb with
  | [], _ => cases hv
  | [a], _ => cases hv
  | [a, b], hb =>
    have h1 := hb a (by simp)
    have h2 := hb b (by simp)
    unfold rvt at hv ⊢
    simp only at hv ⊢
    split at hv
    · rename_i h; rw [if_pos h]; simp only; omega
    · cases hv
  | [a, b, c], hb =>
    have h1 := hb a (by simp)
    have h2 := hb b (by simp)
    have h3 := hb c (by simp)
    unfold rvt
    simp only
    omega
  | a :: b :: c :: d :: l, _ => cases hv
def OwnsV (bs : Nat → List Nat) (gs : Nat → List (Int × Int)) (tol : Int) (nm : ByteArray) (st : Int) (w : World) (e : Ending) (w' : World) : Prop :=
  ∃ lv gv, e = .returned (.tuple #[.agg #[.string nm, .int .i64 st, lv, gv], .agg #[.int .i64 (rCnt bs gs tol 0 (bs 0).length), .int .i64 (rCnt bs gs tol 1 (bs 0).length), .int .i64 (rCnt bs gs tol 2 (bs 0).length)]]) ∧ w'.ownsRow w.heap.size 43 1 lv (bs 0).length (flc (asmK (rLev bs gs tol (bs 0).length (bs 0).length) (rMrk bs gs tol (bs 0).length (bs 0).length) (bs 0).length)) ∧ w'.ownsRow w.heap.size 80 2 gv (strF ((rMrk bs gs tol (bs 0).length (bs 0).length).map (!·)) (bs 0).length).length (spc (strF ((rMrk bs gs tol (bs 0).length (bs 0).length).map (!·)) (bs 0).length)) ∧ Below w.heap.size w w'

set_option maxRecDepth 1000000 in
set_option maxHeartbeats 16000000 in
theorem refVote_any (nm : Nat → ByteArray) (st : Nat → Int) (lv gv : Nat → Value) (bs : Nat → List Nat) (gs : Nat → List (Int × Int)) (tol : Int) (w : World) (hl : ∀ g, g < 3 → Rd w w.heap.size (lv g) (bs g).length (flc (bs g))) (hg : ∀ g, g < 3 → Rd w w.heap.size (gv g) (gs g).length (spc (gs g))) (hv : ∀ g, g < 3 → ∀ i, i < (bs 0).length → chkLev ((bs g).getD i 0) = 0) (hn : ∀ g, g < 3 → (bs g).length = (bs 0).length) (hn0 : (bs 0).length ≤ 4096) (ht : 0 ≤ tol ∧ tol ≤ 2048) :
    Calls Tryz.prog 14 #[.agg (rec3 nm st lv gv), .int .i64 tol] w (OwnsV bs gs tol (nm 0) (st 0) w) := by
  obtain ⟨f0, hf, hz0, hz1, hz2⟩ := info_parts floatInfo
  obtain ⟨b0, hb, hy0, hy1, hy2⟩ := info_parts boolInfo
  obtain ⟨i0, hi, hx0, hx1, hx2⟩ := info_parts intInfo
  have HII := hd (And.intro hi (And.intro hx0 (And.intro hx1 hx2)))
  have HL0 := hd (hl 0 (by omega))
  have HG0 := hd (hg 0 (by omega))
  have HL1 := hd (hl 1 (by omega))
  have HG1 := hd (hg 1 (by omega))
  have HL2 := hd (hl 2 (by omega))
  have HG2 := hd (hg 2 (by omega))
  obtain ⟨A0, c0, el0, hq0, hr0, -⟩ := hl 0 (by omega)
  obtain ⟨B0, d0, eg0, -⟩ := hg 0 (by omega)
  rw [el0] at HL0
  rw [eg0] at HG0
  obtain ⟨A1, c1, el1, hq1, hr1, -⟩ := hl 1 (by omega)
  obtain ⟨B1, d1, eg1, -⟩ := hg 1 (by omega)
  rw [el1] at HL1
  rw [eg1] at HG1
  obtain ⟨A2, c2, el2, hq2, hr2, -⟩ := hl 2 (by omega)
  obtain ⟨B2, d2, eg2, -⟩ := hg 2 (by omega)
  rw [el2] at HL2
  rw [eg2] at HG2
  unfold maxLen at hr0 hr1 hr2
  have HN1 := hd (hn 1 (by omega))
  have HN2 := hd (hn 2 (by omega))
  have HVL := hd (fun g (h : g < 3) i (h' : i < (bs 0).length) => hv g h i h')
  have HR0 := hd (fun (W : World) (hb : Below w.heap.size w W) (k : Nat) (h : k < (bs 0).length) => refRecorded_any (nm 0) (st 0) A0 B0 (bs 0).length c0 d0 (gs 0) k W ((HG0.out.below hb (Nat.le_refl _)).mono hb.size) (by exact h))
  have HR1 := hd (fun (W : World) (hb : Below w.heap.size w W) (k : Nat) (h : k < (bs 0).length) => refRecorded_any (nm 1) (st 1) A1 B1 (bs 1).length c1 d1 (gs 1) k W ((HG1.out.below hb (Nat.le_refl _)).mono hb.size) (by rw [HN1.out]; exact h))
  have HR2 := hd (fun (W : World) (hb : Below w.heap.size w W) (k : Nat) (h : k < (bs 0).length) => refRecorded_any (nm 2) (st 2) A2 B2 (bs 2).length c2 d2 (gs 2) k W ((HG2.out.below hb (Nat.le_refl _)).mono hb.size) (by rw [HN2.out]; exact h))
  have HNN := hd (And.intro hn0 ht)
  have hMK := Classical.axiomOfChoice (fun W : World => run_make_full (P := Tryz.prog) W W.heap.size 22 43 f0 (.float .f32 0) 1 Tryz.underlying22 hf hz0 hz1 .i64 .i64 (bs 0).length (by rw [hz2]; omega) (by unfold maxLen; omega) (Nat.le_refl _))
  obtain ⟨mk, hmk⟩ := hMK
  have hm1 := fun W => (hmk W).1
  have HM := hd (fun (W : World) => show (mk W).ownsRow W.heap.size 43 1 (.slice (some ⟨W.heap.size, 0, none⟩) (bs 0).length (bs 0).length) (bs 0).length (flc (rLev bs gs tol (bs 0).length 0)) ∧ Below W.heap.size W (mk W) from by
    obtain ⟨h1, h2⟩ := (hmk W).2
    refine ⟨?_, (Below.refl _ W).grown h2 (Nat.le_refl _) (fun _ h => by cases h)⟩
    have e : (madeCells (Value.float .f32 0).cells ((bs 0).length * 1)).toList = (flc (rLev bs gs tol (bs 0).length 0)) := by
      rw [show (Value.float .f32 0).cells = #[Value.float .f32 0] from rfl, toList_madeCells_one, rLev_zero]; simp [flc]
    rw [← e]; exact h1)
  have HBY := hd (show b0.bytes * (bs 0).length ≤ 281474976710656 by rw [hy2]; omega)
  have HMX := hd (show (bs 0).length ≤ maxLen by unfold maxLen; omega)
  unfold rec3
  rw [el0, eg0, el1, eg1, el2, eg2]
  clear hmk hl hg hv hn hz0 hz1 hz2 hf hi hx0 hx1 hx2 el0 eg0 hq0 el1 eg1 hq1 el2 eg2 hq2
  obtain ⟨W1, hW1⟩ : ∃ W1, W1 = ((((w.alloc (Obj.cells #[.string (nm 0), .int .i64 (st 0), .slice A0 (bs 0).length c0, .slice B0 (gs 0).length d0, .string (nm 1), .int .i64 (st 1), .slice A1 (bs 1).length c1, .slice B1 (gs 1).length d1, .string (nm 2), .int .i64 (st 2), .slice A2 (bs 2).length c2, .slice B2 (gs 2).length d2] 26)).alloc (Obj.cells #[.string ⟨#[]⟩, .int .i64 0, .slice none 0 0, .slice none 0 0] 25)).alloc (Obj.cells #[.int .i64 0, .int .i64 0, .int .i64 0] 30)).alloc (Obj.cells #[.int .i64 0, .int .i64 0, .int .i64 0] 30)) := ⟨_, rfl⟩
  have hs1 : W1.heap.size = w.heap.size + 4 := by rw [hW1]; simp
  have hB : Below w.heap.size w W1 := by rw [hW1]; exact ((((Below.refl _ w).alloc (Nat.le_refl _) _).alloc (by simp) _).alloc (by simp; omega) _).alloc (by simp; omega) _
  have hq0 : W1.heap[w.heap.size]? = some (.cells #[.string (nm 0), .int .i64 (st 0), .slice A0 (bs 0).length c0, .slice B0 (gs 0).length d0, .string (nm 1), .int .i64 (st 1), .slice A1 (bs 1).length c1, .slice B1 (gs 1).length d1, .string (nm 2), .int .i64 (st 2), .slice A2 (bs 2).length c2, .slice B2 (gs 2).length d2] 26 (0, 0)) := by
    rw [hW1, Below.heap_alloc _ _ _ (by simp; omega), Below.heap_alloc _ _ _ (by simp; omega), Below.heap_alloc _ _ _ (by simp)]; exact blk_new _ _ _
  have hq1 : W1.heap[w.heap.size + 1]? = some (.cells #[.string ⟨#[]⟩, .int .i64 0, .slice none 0 0, .slice none 0 0] 25 (0, 0)) := by
    have h1 := blk_new (w.alloc (Obj.cells #[.string (nm 0), .int .i64 (st 0), .slice A0 (bs 0).length c0, .slice B0 (gs 0).length d0, .string (nm 1), .int .i64 (st 1), .slice A1 (bs 1).length c1, .slice B1 (gs 1).length d1, .string (nm 2), .int .i64 (st 2), .slice A2 (bs 2).length c2, .slice B2 (gs 2).length d2] 26)) #[.string ⟨#[]⟩, .int .i64 0, .slice none 0 0, .slice none 0 0] 25
    simp only [World.size_alloc] at h1
    rw [hW1, Below.heap_alloc _ _ _ (by simp), Below.heap_alloc _ _ _ (by simp)]; exact h1
  have hq2 : W1.heap[w.heap.size + 2]? = some (.cells #[.int .i64 0, .int .i64 0, .int .i64 0] 30 (0, 0)) := by
    have h1 := blk_new ((w.alloc (Obj.cells #[.string (nm 0), .int .i64 (st 0), .slice A0 (bs 0).length c0, .slice B0 (gs 0).length d0, .string (nm 1), .int .i64 (st 1), .slice A1 (bs 1).length c1, .slice B1 (gs 1).length d1, .string (nm 2), .int .i64 (st 2), .slice A2 (bs 2).length c2, .slice B2 (gs 2).length d2] 26)).alloc (Obj.cells #[.string ⟨#[]⟩, .int .i64 0, .slice none 0 0, .slice none 0 0] 25)) #[.int .i64 0, .int .i64 0, .int .i64 0] 30
    simp only [World.size_alloc] at h1
    rw [hW1, Below.heap_alloc _ _ _ (by simp)]; exact h1
  have hq3 : W1.heap[w.heap.size + 3]? = some (.cells #[.int .i64 0, .int .i64 0, .int .i64 0] 30 (0, 0)) := by
    have h1 := blk_new (((w.alloc (Obj.cells #[.string (nm 0), .int .i64 (st 0), .slice A0 (bs 0).length c0, .slice B0 (gs 0).length d0, .string (nm 1), .int .i64 (st 1), .slice A1 (bs 1).length c1, .slice B1 (gs 1).length d1, .string (nm 2), .int .i64 (st 2), .slice A2 (bs 2).length c2, .slice B2 (gs 2).length d2] 26)).alloc (Obj.cells #[.string ⟨#[]⟩, .int .i64 0, .slice none 0 0, .slice none 0 0] 25)).alloc (Obj.cells #[.int .i64 0, .int .i64 0, .int .i64 0] 30)) #[.int .i64 0, .int .i64 0, .int .i64 0] 30
    simp only [World.size_alloc] at h1
    rw [hW1]; exact h1
  have HB := hd hB
  have HQ0 := hd hq0
  have HQ1 := hd hq1
  have HQ2 := hd hq2
  have HQ3 := hd hq3
  have HS := hd hs1
  have q2 := blk_cell hq0 2
  simp at q2
  clear hB hq0 hq1 hq2 hq3 hs1
  go_enter Tryz.func14, Tryz.ntmps14
  have hle := hd (show w.heap.size ≤ W1.heap.size by have := HS.out; omega)
  go_wp2_with (at_make; refine wpList_make_full _ rfl (.tmp 21) (.tmp 21) 97 rfl (w.heap.size + 4) 4 b0 (.bool false) 1 Tryz.underlying97 hb hy0 hy1 .i64 .i64 ((bs 0).length : Int) ((bs 0).length : Int) (bs 0).length rfl rfl rfl rfl HBY.out HMX.out (by simp) ?_; intro W2 hown2 hgrow2; rw [← hW1] at hown2 hgrow2; have HO2 := hd hown2; have HG2w := hd hgrow2; have hs2 := hgrow2.size; have hr0 := (hgrow2.block w.heap.size (by have := HS.out; omega) (fun e => by cases e)).trans HQ0.out; have k0 := blk_cell hr0 0; have k1 := blk_cell hr0 1; have k2 := blk_cell hr0 2; simp at k0 k1 k2; clear hown2 hgrow2 hr0)
  generalize hM : w.heap.size + 1 + 1 + 1 + 1 = M
  generalize hO : w.heap.size + 1 + 1 + 1 = O
  have hgl := HG2w.out
  have HVB := hd (show VB M O (bs 0).length w #[.string (nm 0), .int .i64 (st 0), .slice A0 (bs 0).length c0, .slice B0 (gs 0).length d0, .string (nm 1), .int .i64 (st 1), .slice A1 (bs 1).length c1, .slice B1 (gs 1).length d1, .string (nm 2), .int .i64 (st 2), .slice A2 (bs 2).length c2, .slice B2 (gs 2).length d2] ((rMrk bs gs tol (bs 0).length 0).map Value.bool) (rD bs gs tol 0 0) W2 from by
    have h4 := HS.out
    have hm : M = W1.heap.size := by omega
    have ho : O = w.heap.size + 3 := by omega
    have e : (madeCells (Value.bool false).cells ((bs 0).length * 1)).toList = ((rMrk bs gs tol (bs 0).length 0).map Value.bool) := by
      rw [show (Value.bool false).cells = #[Value.bool false] from rfl, toList_madeCells_one, rMrk_zero]; simp
    refine ⟨by rw [hm, ← e]; exact HO2.out, ?_, ho, (hgl.block _ (by omega) (fun e => by cases e)).trans HQ0.out, (hgl.block _ (by omega) (fun e => by cases e)).trans HQ1.out, (hgl.block _ (by omega) (fun e => by cases e)).trans HQ2.out, by omega, HB.out.grown hgl HB.out.size (fun _ h => by cases h)⟩
    rw [ho, rD_zero]; exact (hgl.block _ (by omega) (fun e => by cases e)).trans HQ3.out)
  clear hM hO hgl HO2 HG2w HQ0 HQ1 HQ2 HQ3 HB HS hs2 hle
  have b0 := hd ((Below.refl W2.heap.size W2).drew)
  have hmc : ∀ (W : World) (a : Addr), (W.cell? a).isSome = true → (mk W).cell? a = W.cell? a := fun W a h => by
    obtain ⟨u, hu⟩ := Option.isSome_iff_exists.1 h
    exact (HM.out W).2.cell (World.block_lt_of_cell? _ _ hu)
  have hmf : ∀ (W : World) (a : Addr), (W.cell? a).isSome = true → (mk W).frozen? a = W.frozen? a := fun W a h => by
    obtain ⟨u, hu⟩ := Option.isSome_iff_exists.1 h
    exact World.frozen?_of_block ((HM.out W).2.block _ (World.block_lt_of_cell? _ _ hu))
  have hnB : W2.heap.size ≠ w.heap.size := by have := HVB.out.siz; omega
  have hnB' := hnB.symm
  have hnA : (mk W2.drew).heap.size ≠ w.heap.size := by have h1 := (HM.out W2.drew).2.size; have h2 : W2.drew.heap.size = W2.heap.size := rfl; have := HVB.out.siz; omega
  have hnA' := hnA.symm
  go_cut [9] from 23 (fun s9 wx => ∃ (R L : Nat), s9 = .pointer (some ⟨R, 0, none⟩) ∧ Hid (VR M O R L (bs 0).length w #[.string (nm 0), .int .i64 (st 0), .slice A0 (bs 0).length c0, .slice B0 (gs 0).length d0, .string (nm 1), .int .i64 (st 1), .slice A1 (bs 1).length c1, .slice B1 (gs 1).length d1, .string (nm 2), .int .i64 (st 2), .slice A2 (bs 2).length c2, .slice B2 (gs 2).length d2] (nm 0) (st 0) (flc (rLev bs gs tol (bs 0).length 0)) ((rMrk bs gs tol (bs 0).length 0).map Value.bool) (rD bs gs tol 0 0) wx))
  case first =>
    go_region_held3 (fun x => x.cell? ⟨w.heap.size, 0, none⟩ = some (.string (nm 0)) ∧ x.cell? ⟨w.heap.size, 1, none⟩ = some (.int .i64 (st 0))) (go_keep) (fail)
    all_goals
      go_wp2_with fail
      go_meet
      have hlA : (mk (W2.drew.alloc (Obj.cells #[.string ⟨#[]⟩, .int .i64 0, .slice none 0 0, .slice none 0 0] 25))).ownsRow (W2.heap.size + 1) 43 1 (.slice (some ⟨W2.heap.size + 1, 0, none⟩) (bs 0).length (bs 0).length) (bs 0).length (flc (rLev bs gs tol (bs 0).length 0)) := by
        have := (HM.out (W2.drew.alloc (Obj.cells #[.string ⟨#[]⟩, .int .i64 0, .slice none 0 0, .slice none 0 0] 25))).1; rw [World.size_alloc] at this; exact this
      first
        | exact ⟨_, _, rfl, hd (vr_alloc HVB.out (b0.out.trans (HM.out W2.drew).2) (HM.out W2.drew).1 (Nat.le_refl _))⟩
        | exact ⟨_, _, rfl, hd (vr_stored HVB.out ((b0.out.alloc (Nat.le_refl _) _).trans ((HM.out (W2.drew.alloc (Obj.cells #[.string ⟨#[]⟩, .int .i64 0, .slice none 0 0, .slice none 0 0] 25))).2.mono (by simp))) (((HM.out (W2.drew.alloc (Obj.cells #[.string ⟨#[]⟩, .int .i64 0, .slice none 0 0, .slice none 0 0] 25))).2.block _ (by simp)).trans (blk_new W2.drew #[.string ⟨#[]⟩, .int .i64 0, .slice none 0 0, .slice none 0 0] 25)) (Nat.le_refl _) hlA (by omega))⟩
  case rest =>
    obtain ⟨R, L, rfl, HK⟩ := hcut
    clear hm1 HM hmc hmf b0 hnA hnA' hnB hnB' k0 k1 k2 HVB HBY HMX
    go_wp2
    go_loopw [10] (fun i wr => ∃ k : Nat, k ≤ (bs 0).length ∧ i = .int .i64 k ∧ Hid (VR M O R L (bs 0).length w #[.string (nm 0), .int .i64 (st 0), .slice A0 (bs 0).length c0, .slice B0 (gs 0).length d0, .string (nm 1), .int .i64 (st 1), .slice A1 (bs 1).length c1, .slice B1 (gs 1).length d1, .string (nm 2), .int .i64 (st 2), .slice A2 (bs 2).length c2, .slice B2 (gs 2).length d2] (nm 0) (st 0) (flc (rLev bs gs tol (bs 0).length k)) ((rMrk bs gs tol (bs 0).length k).map Value.bool) (rD bs gs tol k 0) wr)) (fun i _ => (bs 0).length - (intOf i).toNat)
    case atStart => exact ⟨0, Nat.zero_le _, rfl, HK⟩
    case round =>
      obtain ⟨k, hk, rfl, HI⟩ := hrel
      clear HK
      by_cases hlt : k < (bs 0).length
      · have hki : (k : Int) < ((bs 0).length : Int) := by omega
        have hkn1 : k < (bs 1).length := by rw [HN1.out]; exact hlt
        have hki1 : (k : Int) < ((bs 1).length : Int) := by omega
        have hkn2 : k < (bs 2).length := by rw [HN2.out]; exact hlt
        have hki2 : (k : Int) < ((bs 2).length : Int) := by omega
        obtain ⟨A', c', e', -, -, hx⟩ := id HL0.out
        cases e'
        obtain ⟨x0, z0, rfl, hbb, hcell⟩ := hx (by omega)
        obtain ⟨y0, hy0⟩ : ∃ y, y = (bs 0).getD k 0 := ⟨_, rfl⟩
        have HC0 := hd (fun (X : World) (hX : Below w.heap.size w X) => show X.cell? ⟨x0, z0 + k, none⟩ = some (.float .f32 y0) from (hX.cell (p := ⟨x0, _, none⟩) hbb).trans ((hcell k (by simpa [flc] using hlt)).trans (by rw [hy0]; exact flc_at (bs 0) k hlt)))
        have HV0 := hd (show chkLev y0 = 0 from by rw [hy0]; exact HVL.out 0 (by omega) k hlt)
        have HY0 := hd hy0
        clear hy0 hbb hcell hx
        obtain ⟨A', c', e', -, -, hx⟩ := id HL1.out
        cases e'
        obtain ⟨x1, z1, rfl, hbb, hcell⟩ := hx (by omega)
        obtain ⟨y1, hy1⟩ : ∃ y, y = (bs 1).getD k 0 := ⟨_, rfl⟩
        have HC1 := hd (fun (X : World) (hX : Below w.heap.size w X) => show X.cell? ⟨x1, z1 + k, none⟩ = some (.float .f32 y1) from (hX.cell (p := ⟨x1, _, none⟩) hbb).trans ((hcell k (by simpa [flc] using hkn1)).trans (by rw [hy1]; exact flc_at (bs 1) k hkn1)))
        have HV1 := hd (show chkLev y1 = 0 from by rw [hy1]; exact HVL.out 1 (by omega) k hlt)
        have HY1 := hd hy1
        clear hy1 hbb hcell hx
        obtain ⟨A', c', e', -, -, hx⟩ := id HL2.out
        cases e'
        obtain ⟨x2, z2, rfl, hbb, hcell⟩ := hx (by omega)
        obtain ⟨y2, hy2⟩ : ∃ y, y = (bs 2).getD k 0 := ⟨_, rfl⟩
        have HC2 := hd (fun (X : World) (hX : Below w.heap.size w X) => show X.cell? ⟨x2, z2 + k, none⟩ = some (.float .f32 y2) from (hX.cell (p := ⟨x2, _, none⟩) hbb).trans ((hcell k (by simpa [flc] using hkn2)).trans (by rw [hy2]; exact flc_at (bs 2) k hkn2)))
        have HV2 := hd (show chkLev y2 = 0 from by rw [hy2]; exact HVL.out 2 (by omega) k hlt)
        have HY2 := hd hy2
        clear hy2 hbb hcell hx
        obtain ⟨V, rfl⟩ : ∃ x : World, x = wr := ⟨_, rfl⟩
        go_wp2
        go_loopw [11, 12] (fun lv j wq => ∃ q : Nat, q ≤ 3 ∧ j = .int .i64 q ∧ Hid (wq.ownsRow V.heap.size 3 1 lv (rSk bs gs k q).length ((rSk bs gs k q).map (Value.int .i64)) ∧ Below V.heap.size V wq)) (fun _ j _ => 3 - (intOf j).toNat)
        case atStart => exact ⟨0, by omega, rfl, hd ⟨World.ownsRow_nil _ _ _ _, Below.refl _ _⟩⟩
        case round =>
          obtain ⟨q, hq, rfl, HJ⟩ := hrel
          obtain ⟨A9, c9, hv9, -⟩ := own_form HJ.out.1
          subst hv9
          by_cases hq3 : q < 3
          · rcases (show q = 0 ∨ q = 1 ∨ q = 2 by omega) with rfl | rfl | rfl
            · have hr := (HJ.out.2.block _ (blk_lt HI.out.arr)).trans HI.out.arr
              have a0 := blk_cell hr 0
              have a1 := blk_cell hr 1
              have a2 := blk_cell hr 2
              have a3 := blk_cell hr 3
              simp at a0 a1 a2 a3
              clear hr
              go_wp2_with fail
              refine (HR0.out _ (HI.out.bel.trans (HJ.out.2.mono HI.out.bel.size)) k hlt).mono ?_
              rintro e w1 ⟨rfl, hb⟩
              have HJ1 := hd (And.intro (own_bel HJ.out.1 hb) (HJ.out.2.trans (hb.mono HJ.out.2.size)))
              clear HJ hb a0 a1 a2 a3
              cases hh : hasL (gs 0) (k : Int)
              · have HH := hd hh
                clear hh
                have hr := (HJ1.out.2.block _ (blk_lt HI.out.arr)).trans HI.out.arr
                have a2 := blk_cell hr 2
                simp at a2
                have cx := HC0.out _ (HI.out.bel.trans (HJ1.out.2.mono HI.out.bel.size))
                clear hr
                go_wp2_with fail
                refine (refSixt_any _ _ HV0.out).mono ?_
                rintro e w2 ⟨rfl, rfl⟩
                have HPL := hd (show (rSk bs gs k 0).length + 1 ≤ maxLen ∧ ((rSk bs gs k 0).length + 1) * 8 ≤ 140737488355328 by have := rSk_len bs gs k 0; unfold maxLen; omega)
                go_wp2_with (at_builtin; refine wpList_append_own _ rfl (.tmp 46) (.tmp 55) 44 rfl V.heap.size 3 i0 (.int .i64 0) 1 8 Tryz.underlying44 HII.out.1 HII.out.2.1 HII.out.2.2.1 HII.out.2.2.2 rfl (by decide) _ (rSk bs gs k 0).length _ rfl (HJ1.out.1.alloc _) ⟨w1.heap.size, 0, none⟩ 1 1 [.int .i64 (s16 y0)] rfl rfl (new_oneC _ _ _) (by simp [Value.oneCell']) HPL.out.1 HPL.out.2 (by have := HJ1.out.2.size; simp; omega) ?_)
                intro v7 w7 hown7 hg7 _
                have HJ7 := hd (show w7.ownsRow V.heap.size 3 1 v7 (rSk bs gs k (0 + 1)).length ((rSk bs gs k (0 + 1)).map (Value.int .i64)) ∧ Below V.heap.size V w7 from ⟨by rw [rSk_yes HH.out, ← HY0.out, List.length_append, List.map_append]; exact hown7, (HJ1.out.2.alloc HJ1.out.2.size _).grown hg7 (by have := HJ1.out.2.size; simp; omega) (fun kk hkk => (HJ1.out.1.lt kk hkk).1)⟩)
                clear hown7 hg7 HJ1 a2 cx
                go_wp2
                go_roundw
                case rel => exact ⟨1, by omega, rfl, HJ7⟩
                case measure => simp [intOf]
              · have HH := hd hh
                clear hh
                go_wp2
                go_roundw
                case rel => exact ⟨1, by omega, rfl, by rw [rSk_no HH.out]; exact HJ1⟩
                case measure => simp [intOf]
            · have hr := (HJ.out.2.block _ (blk_lt HI.out.arr)).trans HI.out.arr
              have a0 := blk_cell hr 4
              have a1 := blk_cell hr 5
              have a2 := blk_cell hr 6
              have a3 := blk_cell hr 7
              simp at a0 a1 a2 a3
              clear hr
              go_wp2_with fail
              refine (HR1.out _ (HI.out.bel.trans (HJ.out.2.mono HI.out.bel.size)) k hlt).mono ?_
              rintro e w1 ⟨rfl, hb⟩
              have HJ1 := hd (And.intro (own_bel HJ.out.1 hb) (HJ.out.2.trans (hb.mono HJ.out.2.size)))
              clear HJ hb a0 a1 a2 a3
              cases hh : hasL (gs 1) (k : Int)
              · have HH := hd hh
                clear hh
                have hr := (HJ1.out.2.block _ (blk_lt HI.out.arr)).trans HI.out.arr
                have a2 := blk_cell hr 6
                simp at a2
                have cx := HC1.out _ (HI.out.bel.trans (HJ1.out.2.mono HI.out.bel.size))
                clear hr
                go_wp2_with fail
                refine (refSixt_any _ _ HV1.out).mono ?_
                rintro e w2 ⟨rfl, rfl⟩
                have HPL := hd (show (rSk bs gs k 1).length + 1 ≤ maxLen ∧ ((rSk bs gs k 1).length + 1) * 8 ≤ 140737488355328 by have := rSk_len bs gs k 1; unfold maxLen; omega)
                go_wp2_with (at_builtin; refine wpList_append_own _ rfl (.tmp 46) (.tmp 55) 44 rfl V.heap.size 3 i0 (.int .i64 0) 1 8 Tryz.underlying44 HII.out.1 HII.out.2.1 HII.out.2.2.1 HII.out.2.2.2 rfl (by decide) _ (rSk bs gs k 1).length _ rfl (HJ1.out.1.alloc _) ⟨w1.heap.size, 0, none⟩ 1 1 [.int .i64 (s16 y1)] rfl rfl (new_oneC _ _ _) (by simp [Value.oneCell']) HPL.out.1 HPL.out.2 (by have := HJ1.out.2.size; simp; omega) ?_)
                intro v7 w7 hown7 hg7 _
                have HJ7 := hd (show w7.ownsRow V.heap.size 3 1 v7 (rSk bs gs k (1 + 1)).length ((rSk bs gs k (1 + 1)).map (Value.int .i64)) ∧ Below V.heap.size V w7 from ⟨by rw [rSk_yes HH.out, ← HY1.out, List.length_append, List.map_append]; exact hown7, (HJ1.out.2.alloc HJ1.out.2.size _).grown hg7 (by have := HJ1.out.2.size; simp; omega) (fun kk hkk => (HJ1.out.1.lt kk hkk).1)⟩)
                clear hown7 hg7 HJ1 a2 cx
                go_wp2
                go_roundw
                case rel => exact ⟨2, by omega, rfl, HJ7⟩
                case measure => simp [intOf]
              · have HH := hd hh
                clear hh
                go_wp2
                go_roundw
                case rel => exact ⟨2, by omega, rfl, by rw [rSk_no HH.out]; exact HJ1⟩
                case measure => simp [intOf]
            · have hr := (HJ.out.2.block _ (blk_lt HI.out.arr)).trans HI.out.arr
              have a0 := blk_cell hr 8
              have a1 := blk_cell hr 9
              have a2 := blk_cell hr 10
              have a3 := blk_cell hr 11
              simp at a0 a1 a2 a3
              clear hr
              go_wp2_with fail
              refine (HR2.out _ (HI.out.bel.trans (HJ.out.2.mono HI.out.bel.size)) k hlt).mono ?_
              rintro e w1 ⟨rfl, hb⟩
              have HJ1 := hd (And.intro (own_bel HJ.out.1 hb) (HJ.out.2.trans (hb.mono HJ.out.2.size)))
              clear HJ hb a0 a1 a2 a3
              cases hh : hasL (gs 2) (k : Int)
              · have HH := hd hh
                clear hh
                have hr := (HJ1.out.2.block _ (blk_lt HI.out.arr)).trans HI.out.arr
                have a2 := blk_cell hr 10
                simp at a2
                have cx := HC2.out _ (HI.out.bel.trans (HJ1.out.2.mono HI.out.bel.size))
                clear hr
                go_wp2_with fail
                refine (refSixt_any _ _ HV2.out).mono ?_
                rintro e w2 ⟨rfl, rfl⟩
                have HPL := hd (show (rSk bs gs k 2).length + 1 ≤ maxLen ∧ ((rSk bs gs k 2).length + 1) * 8 ≤ 140737488355328 by have := rSk_len bs gs k 2; unfold maxLen; omega)
                go_wp2_with (at_builtin; refine wpList_append_own _ rfl (.tmp 46) (.tmp 55) 44 rfl V.heap.size 3 i0 (.int .i64 0) 1 8 Tryz.underlying44 HII.out.1 HII.out.2.1 HII.out.2.2.1 HII.out.2.2.2 rfl (by decide) _ (rSk bs gs k 2).length _ rfl (HJ1.out.1.alloc _) ⟨w1.heap.size, 0, none⟩ 1 1 [.int .i64 (s16 y2)] rfl rfl (new_oneC _ _ _) (by simp [Value.oneCell']) HPL.out.1 HPL.out.2 (by have := HJ1.out.2.size; simp; omega) ?_)
                intro v7 w7 hown7 hg7 _
                have HJ7 := hd (show w7.ownsRow V.heap.size 3 1 v7 (rSk bs gs k (2 + 1)).length ((rSk bs gs k (2 + 1)).map (Value.int .i64)) ∧ Below V.heap.size V w7 from ⟨by rw [rSk_yes HH.out, ← HY2.out, List.length_append, List.map_append]; exact hown7, (HJ1.out.2.alloc HJ1.out.2.size _).grown hg7 (by have := HJ1.out.2.size; simp; omega) (fun kk hkk => (HJ1.out.1.lt kk hkk).1)⟩)
                clear hown7 hg7 HJ1 a2 cx
                go_wp2
                go_roundw
                case rel => exact ⟨3, by omega, rfl, HJ7⟩
                case measure => simp [intOf]
              · have HH := hd hh
                clear hh
                go_wp2
                go_roundw
                case rel => exact ⟨3, by omega, rfl, by rw [rSk_no HH.out]; exact HJ1⟩
                case measure => simp [intOf]
          · obtain rfl : q = 3 := by omega
            go_wp2_with fail
            refine (voted_any _ (rSk bs gs k 3) tol _ (rd_of_own HJ.out.1) (rSk_len _ _ _ _) (rSk_in (fun g hg => HVL.out g hg k hlt)) HNN.out.2).mono ?_
            rintro e w2 ⟨rfl, hb⟩
            have HI2 := hd ((HI.out.below HJ.out.2).below hb)
            clear HI HJ hb
            cases hbb : (rvt (rSk bs gs k 3) tol).2
            · have HRF := hd (show (rvI bs gs tol k).2 = false from hbb)
              clear hbb
              go_wp2
              go_roundw
              case rel => exact ⟨k + 1, by omega, by go_num, hd (by rw [rLev_no _ HRF.out, rMrk_no _ HRF.out, rD_no HRF.out]; exact HI2.out)⟩
              case measure => simp [intOf]; omega
            · have HRT := hd (show (rvI bs gs tol k).2 = true from hbb)
              have hvin := rvt_in (rSk_in (fun g hg => HVL.out g hg k hlt)) hbb
              obtain ⟨v, hvv⟩ : ∃ v, v = (rvt (rSk bs gs k 3) tol).1 := ⟨_, rfl⟩
              rw [← hvv] at hvin ⊢
              have HVV := hd (show (rvI bs gs tol k).1 = v from hvv.symm)
              obtain ⟨hv1, hv2⟩ := hvin
              have HLV := hd (lvl_ok ⟨hv1, hv2⟩)
              have hcv := fun w => run_float_arith (P := Tryz.prog) w .quo 43 .f32 (floatOfInt .f32 v) 1098907648 (lvl v) HLV.out.1
              clear hbb hvv
              have r2 := blk_cell HI2.out.out 2
              simp at r2
              have hRM : R ≠ M := fun h' => by
                rcases own_box HI2.out.the HI2.out.out (by decide) with h1 | h1
                · cases h1
                · exact h1 (by first | (rw [h']; done) | (rw [h']; rfl))
              have hRM' := hRM.symm
              have hRL : R ≠ L := fun h' => by
                rcases own_box HI2.out.lev HI2.out.out (by decide) with h1 | h1
                · cases h1
                · exact h1 (by first | (rw [h']; done) | (rw [h']; rfl))
              have hRL' := hRL.symm
              have hLM : L ≠ M := fun h' => by
                rcases own_types HI2.out.the HI2.out.lev (by decide) with h1 | h1
                · cases h1
                · exact h1 (by first | (rw [h']; done) | (rw [h']; rfl))
              have hLM' := hLM.symm
              have l0 := HI2.out.lev.cellAt k (by omega)
              have l1 := HI2.out.lev.frozenAt k
              have m0 := HI2.out.the.cellAt k (by omega)
              have m1 := HI2.out.the.frozenAt k
              have l0' : w2.cell? ⟨L, k, none⟩ = some (((flc (rLev bs gs tol (bs 0).length k))[k]?).getD undef) := by
                rw [l0]; cases h : (flc (rLev bs gs tol (bs 0).length k))[k]? with
                | some v => rfl
                | none => rw [List.getElem?_eq_none_iff] at h; simp [flc, rLev] at h; omega
              have m0' : w2.cell? ⟨M, k, none⟩ = some ((((rMrk bs gs tol (bs 0).length k).map Value.bool)[k]?).getD undef) := by
                rw [m0]; cases h : ((rMrk bs gs tol (bs 0).length k).map Value.bool)[k]? with
                | some v => rfl
                | none => rw [List.getElem?_eq_none_iff] at h; simp [rMrk] at h; omega
              generalize ((flc (rLev bs gs tol (bs 0).length k))[k]?).getD undef = lx at l0'
              generalize (((rMrk bs gs tol (bs 0).length k).map Value.bool)[k]?).getD undef = mx at m0'
              clear l0 m0
              have HI3 := hd (show VR M O R L (bs 0).length w #[.string (nm 0), .int .i64 (st 0), .slice (some ⟨x0, z0, none⟩) (bs 0).length c0, .slice B0 (gs 0).length d0, .string (nm 1), .int .i64 (st 1), .slice (some ⟨x1, z1, none⟩) (bs 1).length c1, .slice B1 (gs 1).length d1, .string (nm 2), .int .i64 (st 2), .slice (some ⟨x2, z2, none⟩) (bs 2).length c2, .slice B2 (gs 2).length d2] (nm 0) (st 0) (flc (rLev bs gs tol (bs 0).length (k + 1))) ((rMrk bs gs tol (bs 0).length (k + 1)).map Value.bool) (rD bs gs tol k 0)  ((w2.drew.setCell ⟨M, k, none⟩ (.bool true)).setCell ⟨L, k, none⟩ (.float .f32 (lvl v))) from by
                have h := (HI2.out.drew.setM k (.bool true)).setL k (.float .f32 (lvl v))
                rw [rLev_yes _ HRT.out, rMrk_yes _ HRT.out, HVV.out]; exact h)
              go_wp2_with fail
              go_big_region
              clear l0' l1 m0' m1 r2 hRM hRM' hRL hRL' hLM hLM' hcv HI2
              have hcn0 := rCnt_le bs gs tol 0 k
              obtain ⟨hcn0a, hcn0b⟩ := hcn0
              have hs0 := s16_in HV0.out
              obtain ⟨hs0a, hs0b⟩ := hs0
              have hcn1 := rCnt_le bs gs tol 1 k
              obtain ⟨hcn1a, hcn1b⟩ := hcn1
              have hs1 := s16_in HV1.out
              obtain ⟨hs1a, hs1b⟩ := hs1
              have hcn2 := rCnt_le bs gs tol 2 k
              obtain ⟨hcn2a, hcn2b⟩ := hcn2
              have hs2 := s16_in HV2.out
              obtain ⟨hs2a, hs2b⟩ := hs2
              go_wp2
              go_loopw [15] (fun j wq => ∃ q : Nat, q ≤ 3 ∧ j = .int .i64 q ∧ Hid (VR M O R L (bs 0).length w #[.string (nm 0), .int .i64 (st 0), .slice (some ⟨x0, z0, none⟩) (bs 0).length c0, .slice B0 (gs 0).length d0, .string (nm 1), .int .i64 (st 1), .slice (some ⟨x1, z1, none⟩) (bs 1).length c1, .slice B1 (gs 1).length d1, .string (nm 2), .int .i64 (st 2), .slice (some ⟨x2, z2, none⟩) (bs 2).length c2, .slice B2 (gs 2).length d2] (nm 0) (st 0) (flc (rLev bs gs tol (bs 0).length (k + 1))) ((rMrk bs gs tol (bs 0).length (k + 1)).map Value.bool) (rD bs gs tol k q) wq)) (fun j _ => 3 - (intOf j).toNat)
              case atStart => exact ⟨0, by omega, rfl, HI3⟩
              case round =>
                obtain ⟨q, hq, rfl, HJ⟩ := hrel
                clear HI3
                by_cases hq3 : q < 3
                · rcases (show q = 0 ∨ q = 1 ∨ q = 2 by omega) with rfl | rfl | rfl
                  · have HDV := hd (show rDev bs gs tol k 0 = (!hasL (gs 0) (k : Int) && decide (max (s16 y0 - v) (0 - (s16 y0 - v)) > tol)) from by unfold rDev; rw [HRT.out, HVV.out, ← HY0.out, Bool.true_and])
                    have a0 := blk_cell HJ.out.arr 0
                    have a1 := blk_cell HJ.out.arr 1
                    have a2 := blk_cell HJ.out.arr 2
                    have a3 := blk_cell HJ.out.arr 3
                    simp at a0 a1 a2 a3
                    have cx := HC0.out _ HJ.out.bel
                    go_wp2_with fail
                    refine (refSixt_any _ _ HV0.out).mono ?_
                    rintro e w3 ⟨rfl, rfl⟩
                    go_wp2_with fail
                    refine (HR0.out _ HJ.out.bel k hlt).mono ?_
                    rintro e w4 ⟨rfl, hb⟩
                    have HJ4 := hd (HJ.out.below hb)
                    clear HJ hb a0 a1 a2 a3 cx
                    have d0 := blk_cell HJ4.out.off 0
                    simp [rD] at d0
                    have f0 := blk_frozen HJ4.out.off 0
                    cases hh : hasL (gs 0) (k : Int)
                    · by_cases hgt : max (s16 y0 - v) (0 - (s16 y0 - v)) > tol
                      · have HVD := hd (show rDev bs gs tol k 0 = true by rw [HDV.out, hh, decide_eq_true hgt]; rfl)
                        go_wp2
                        go_roundw
                        case rel => exact ⟨1, by omega, rfl, hd (by have := HJ4.out.setD 0 (.int .i64 (rCnt bs gs tol 0 k + 1)); simpa [rD, HVD.out] using this)⟩
                        case measure => simp [intOf]
                      · have HVD := hd (show rDev bs gs tol k 0 = false by rw [HDV.out, hh, decide_eq_false hgt]; rfl)
                        go_wp2
                        go_roundw
                        case rel => exact ⟨1, by omega, rfl, hd (by have := HJ4.out; simpa [rD, HVD.out] using this)⟩
                        case measure => simp [intOf]
                    · have HVD := hd (show rDev bs gs tol k 0 = false by rw [HDV.out, hh]; rfl)
                      go_wp2
                      go_roundw
                      case rel => exact ⟨1, by omega, rfl, hd (by have := HJ4.out; simpa [rD, HVD.out] using this)⟩
                      case measure => simp [intOf]
                  · have HDV := hd (show rDev bs gs tol k 1 = (!hasL (gs 1) (k : Int) && decide (max (s16 y1 - v) (0 - (s16 y1 - v)) > tol)) from by unfold rDev; rw [HRT.out, HVV.out, ← HY1.out, Bool.true_and])
                    have a0 := blk_cell HJ.out.arr 4
                    have a1 := blk_cell HJ.out.arr 5
                    have a2 := blk_cell HJ.out.arr 6
                    have a3 := blk_cell HJ.out.arr 7
                    simp at a0 a1 a2 a3
                    have cx := HC1.out _ HJ.out.bel
                    go_wp2_with fail
                    refine (refSixt_any _ _ HV1.out).mono ?_
                    rintro e w3 ⟨rfl, rfl⟩
                    go_wp2_with fail
                    refine (HR1.out _ HJ.out.bel k hlt).mono ?_
                    rintro e w4 ⟨rfl, hb⟩
                    have HJ4 := hd (HJ.out.below hb)
                    clear HJ hb a0 a1 a2 a3 cx
                    have d0 := blk_cell HJ4.out.off 1
                    simp [rD] at d0
                    have f0 := blk_frozen HJ4.out.off 1
                    cases hh : hasL (gs 1) (k : Int)
                    · by_cases hgt : max (s16 y1 - v) (0 - (s16 y1 - v)) > tol
                      · have HVD := hd (show rDev bs gs tol k 1 = true by rw [HDV.out, hh, decide_eq_true hgt]; rfl)
                        go_wp2
                        go_roundw
                        case rel => exact ⟨2, by omega, rfl, hd (by have := HJ4.out.setD 1 (.int .i64 (rCnt bs gs tol 1 k + 1)); simpa [rD, HVD.out] using this)⟩
                        case measure => simp [intOf]
                      · have HVD := hd (show rDev bs gs tol k 1 = false by rw [HDV.out, hh, decide_eq_false hgt]; rfl)
                        go_wp2
                        go_roundw
                        case rel => exact ⟨2, by omega, rfl, hd (by have := HJ4.out; simpa [rD, HVD.out] using this)⟩
                        case measure => simp [intOf]
                    · have HVD := hd (show rDev bs gs tol k 1 = false by rw [HDV.out, hh]; rfl)
                      go_wp2
                      go_roundw
                      case rel => exact ⟨2, by omega, rfl, hd (by have := HJ4.out; simpa [rD, HVD.out] using this)⟩
                      case measure => simp [intOf]
                  · have HDV := hd (show rDev bs gs tol k 2 = (!hasL (gs 2) (k : Int) && decide (max (s16 y2 - v) (0 - (s16 y2 - v)) > tol)) from by unfold rDev; rw [HRT.out, HVV.out, ← HY2.out, Bool.true_and])
                    have a0 := blk_cell HJ.out.arr 8
                    have a1 := blk_cell HJ.out.arr 9
                    have a2 := blk_cell HJ.out.arr 10
                    have a3 := blk_cell HJ.out.arr 11
                    simp at a0 a1 a2 a3
                    have cx := HC2.out _ HJ.out.bel
                    go_wp2_with fail
                    refine (refSixt_any _ _ HV2.out).mono ?_
                    rintro e w3 ⟨rfl, rfl⟩
                    go_wp2_with fail
                    refine (HR2.out _ HJ.out.bel k hlt).mono ?_
                    rintro e w4 ⟨rfl, hb⟩
                    have HJ4 := hd (HJ.out.below hb)
                    clear HJ hb a0 a1 a2 a3 cx
                    have d0 := blk_cell HJ4.out.off 2
                    simp [rD] at d0
                    have f0 := blk_frozen HJ4.out.off 2
                    cases hh : hasL (gs 2) (k : Int)
                    · by_cases hgt : max (s16 y2 - v) (0 - (s16 y2 - v)) > tol
                      · have HVD := hd (show rDev bs gs tol k 2 = true by rw [HDV.out, hh, decide_eq_true hgt]; rfl)
                        go_wp2
                        go_roundw
                        case rel => exact ⟨3, by omega, rfl, hd (by have := HJ4.out.setD 2 (.int .i64 (rCnt bs gs tol 2 k + 1)); simpa [rD, HVD.out] using this)⟩
                        case measure => simp [intOf]
                      · have HVD := hd (show rDev bs gs tol k 2 = false by rw [HDV.out, hh, decide_eq_false hgt]; rfl)
                        go_wp2
                        go_roundw
                        case rel => exact ⟨3, by omega, rfl, hd (by have := HJ4.out; simpa [rD, HVD.out] using this)⟩
                        case measure => simp [intOf]
                    · have HVD := hd (show rDev bs gs tol k 2 = false by rw [HDV.out, hh]; rfl)
                      go_wp2
                      go_roundw
                      case rel => exact ⟨3, by omega, rfl, hd (by have := HJ4.out; simpa [rD, HVD.out] using this)⟩
                      case measure => simp [intOf]
                · obtain rfl : q = 3 := by omega
                  go_wp2
                  go_roundw
                  case rel => exact ⟨k + 1, by omega, by go_num, hd (by rw [← rD_three]; exact HJ.out)⟩
                  case measure => simp [intOf]; omega
      · obtain rfl : k = (bs 0).length := by omega
        have n0 := blk_cell HI.out.out 0
        have n1 := blk_cell HI.out.out 1
        have n2 := blk_cell HI.out.out 2
        have n3 := blk_cell HI.out.out 3
        have d0 := blk_cell HI.out.off 0
        have d1 := blk_cell HI.out.off 1
        have d2 := blk_cell HI.out.off 2
        simp [rD_zero] at n0 n1 n2 n3 d0 d1 d2
        have hofs := HI.out.ofs
        have hbig := HI.out.big
        have hRw := blk_lt HI.out.out
        have hne472 : w.heap.size + 1 ≠ O := by omega
        have hnf472 := hne472.symm
        have hne474 : w.heap.size + 2 ≠ O := by omega
        have hnf474 := hne474.symm
        have hne476 : w.heap.size + 1 + 1 ≠ O := by omega
        have hnf476 := hne476.symm
        have hne478 : w.heap.size + 1 ≠ R := by omega
        have hnf478 := hne478.symm
        have hne480 : w.heap.size + 2 ≠ R := by omega
        have hnf480 := hne480.symm
        have hne482 : w.heap.size + 1 + 1 ≠ R := by omega
        have hnf482 := hne482.symm
        obtain ⟨LX, hLX⟩ : ∃ l : List Nat, l = asmK (rLev bs gs tol (bs 0).length (bs 0).length) (rMrk bs gs tol (bs 0).length (bs 0).length) (bs 0).length := ⟨_, rfl⟩
        obtain ⟨GX, hGX⟩ : ∃ l : List (Int × Int), l = strF ((rMrk bs gs tol (bs 0).length (bs 0).length).map (!·)) (bs 0).length := ⟨_, rfl⟩
        have HKP := hd (fun (W : World) (hb : Below wr.heap.size wr W) => show Calls Tryz.prog 62 #[.agg #[.string (nm 0), .int .i64 (st 0), .slice (some ⟨L, 0, none⟩) (bs 0).length (bs 0).length, .slice none 0 0], .slice (some ⟨M, 0, none⟩) (bs 0).length (bs 0).length] W (OwnsRec W.heap.size (nm 0) (st 0) LX GX W) from by
          have h := refKept_any (nm 0) (st 0) (.slice (some ⟨L, 0, none⟩) (bs 0).length (bs 0).length) (.slice none 0 0) (.slice (some ⟨M, 0, none⟩) (bs 0).length (bs 0).length) (rLev bs gs tol (bs 0).length (bs 0).length) 0 [] (rMrk bs gs tol (bs 0).length (bs 0).length) W (by rw [rLev_len]; exact rd_of_own (own_bel HI.out.lev hb)) (Rd.nil W _) (by rw [rMrk_len]; exact rd_of_own (own_bel HI.out.the hb)) (by rw [rLev_len, rMrk_len]) (by rw [rLev_len]; have := HNN.out.1; omega)
          rw [rLev_len, rMrk_len, ← hLX, ← hGX] at h; exact h)
        clear hofs
        have HLX := hd (And.intro hLX (show LX.length = (bs 0).length by rw [hLX, asmK_len, rLev_len]))
        have HGX := hd hGX
        clear hLX hGX hbig hRw
        go_wp2_with fail
        go_region_held3 (fun x => x.cell? ⟨R, 0, none⟩ = some (.string (nm 0)) ∧ x.cell? ⟨R, 1, none⟩ = some (.int .i64 (st 0)) ∧ x.cell? ⟨R, 2, none⟩ = some (.slice (some ⟨L, 0, none⟩) (bs 0).length (bs 0).length) ∧ x.cell? ⟨R, 3, none⟩ = some (.slice none 0 0) ∧ x.cell? ⟨O, 0, none⟩ = some (.int .i64 (rCnt bs gs tol 0 (bs 0).length)) ∧ x.cell? ⟨O, 1, none⟩ = some (.int .i64 (rCnt bs gs tol 1 (bs 0).length)) ∧ x.cell? ⟨O, 2, none⟩ = some (.int .i64 (rCnt bs gs tol 2 (bs 0).length))) (go_keep)
          (first | (go_at_call 62; refine (HKP.out _ ((Below.refl _ wr).drew)).mono ?_; rintro e w11 ⟨lv', gv', rfl, hol, hog, hb11⟩; have HI11 := hd (HI.out.below (((Below.refl _ wr).drew).trans hb11)); obtain ⟨A7, c7, hv7, -⟩ := own_form hol; obtain ⟨A8, c8, hv8, -⟩ := own_form hog; subst hv7; subst hv8; have HOW := hd (And.intro hol (And.intro hog hb11)); have N0 := blk_cell HI11.out.out 0; have N1 := blk_cell HI11.out.out 1; have N2 := blk_cell HI11.out.out 2; have N3 := blk_cell HI11.out.out 3; have D0 := blk_cell HI11.out.off 0; have D1 := blk_cell HI11.out.off 1; have D2 := blk_cell HI11.out.off 2; have z0 := blk_cell HI11.out.res 0; have z1 := blk_cell HI11.out.res 1; have z2 := blk_cell HI11.out.res 2; have z3 := blk_cell HI11.out.res 3; have t0 := blk_cell HI11.out.re2 0; have t1 := blk_cell HI11.out.re2 1; have t2 := blk_cell HI11.out.re2 2; simp [rD_zero] at N0 N1 N2 N3 D0 D1 D2 z0 z1 z2 z3 t0 t1 t2; have f0 := blk_frozen HI11.out.res 0; have f1 := blk_frozen HI11.out.res 1; have f2 := blk_frozen HI11.out.res 2; have f3 := blk_frozen HI11.out.res 3; have g0 := blk_frozen HI11.out.re2 0; have g1 := blk_frozen HI11.out.re2 1; have g2 := blk_frozen HI11.out.re2 2; clear hol hog hb11 n0 n1 n2 n3 d0 d1 d2))
        obtain ⟨hol, hog, hb11⟩ := HOW.out
        have hlt2 : w.heap.size + 2 < wr.heap.size := blk_lt HI.out.re2
        have b1 := set4_blk HI11.out.res (.string (nm 0)) (.int .i64 (st 0)) (.slice A7 LX.length c7) (.slice A8 GX.length c8)
        have r2 := (set4_other w11 (R := w.heap.size + 1) (D := w.heap.size + 2) (by omega) (.string (nm 0)) (.int .i64 (st 0)) (.slice A7 LX.length c7) (.slice A8 GX.length c8)).trans HI11.out.re2
        have ho1 := own_set4 (R := w.heap.size + 1) (a := .string (nm 0)) (b := .int .i64 (st 0)) (c := .slice A7 LX.length c7) (d := .slice A8 GX.length c8) hol (by show w.heap.size + 1 < wr.heap.size; omega)
        have hg1 := own_set4 (R := w.heap.size + 1) (a := .string (nm 0)) (b := .int .i64 (st 0)) (c := .slice A7 LX.length c7) (d := .slice A8 GX.length c8) hog (by show w.heap.size + 1 < wr.heap.size; omega)
        have hB1 := set4_below HI11.out.bel (Nat.le_succ w.heap.size) (.string (nm 0)) (.int .i64 (st 0)) (.slice A7 LX.length c7) (.slice A8 GX.length c8)
        have b2 := set3_blk r2 (.int .i64 (rCnt bs gs tol 0 (bs 0).length)) (.int .i64 (rCnt bs gs tol 1 (bs 0).length)) (.int .i64 (rCnt bs gs tol 2 (bs 0).length))
        have b1' := (set3_other (set4 w11 (w.heap.size + 1) (.string (nm 0)) (.int .i64 (st 0)) (.slice A7 LX.length c7) (.slice A8 GX.length c8)) (R := w.heap.size + 2) (D := w.heap.size + 1) (by omega) (.int .i64 (rCnt bs gs tol 0 (bs 0).length)) (.int .i64 (rCnt bs gs tol 1 (bs 0).length)) (.int .i64 (rCnt bs gs tol 2 (bs 0).length))).trans b1
        have ho2 := own_set3 (R := w.heap.size + 2) (a := .int .i64 (rCnt bs gs tol 0 (bs 0).length)) (b := .int .i64 (rCnt bs gs tol 1 (bs 0).length)) (c := .int .i64 (rCnt bs gs tol 2 (bs 0).length)) ho1 hlt2
        have hg2 := own_set3 (R := w.heap.size + 2) (a := .int .i64 (rCnt bs gs tol 0 (bs 0).length)) (b := .int .i64 (rCnt bs gs tol 1 (bs 0).length)) (c := .int .i64 (rCnt bs gs tol 2 (bs 0).length)) hg1 hlt2
        have hB2 := set3_below hB1 (R := w.heap.size + 2) (by omega) (.int .i64 (rCnt bs gs tol 0 (bs 0).length)) (.int .i64 (rCnt bs gs tol 1 (bs 0).length)) (.int .i64 (rCnt bs gs tol 2 (bs 0).length))
        change Exit.then _ _ _ _ (set3 (set4 w11 (w.heap.size + 1) (.string (nm 0)) (.int .i64 (st 0)) (.slice A7 LX.length c7) (.slice A8 GX.length c8)) (w.heap.size + 2) (.int .i64 (rCnt bs gs tol 0 (bs 0).length)) (.int .i64 (rCnt bs gs tol 1 (bs 0).length)) (.int .i64 (rCnt bs gs tol 2 (bs 0).length)))
        change (set3 (set4 w11 (w.heap.size + 1) (.string (nm 0)) (.int .i64 (st 0)) (.slice A7 LX.length c7) (.slice A8 GX.length c8)) (w.heap.size + 2) (.int .i64 (rCnt bs gs tol 0 (bs 0).length)) (.int .i64 (rCnt bs gs tol 1 (bs 0).length)) (.int .i64 (rCnt bs gs tol 2 (bs 0).length))).heap[w.heap.size + 2]? = _ at b2
        generalize set3 (set4 w11 (w.heap.size + 1) (.string (nm 0)) (.int .i64 (st 0)) (.slice A7 LX.length c7) (.slice A8 GX.length c8)) (w.heap.size + 2) (.int .i64 (rCnt bs gs tol 0 (bs 0).length)) (.int .i64 (rCnt bs gs tol 1 (bs 0).length)) (.int .i64 (rCnt bs gs tol 2 (bs 0).length)) = W13 at *
        have u0 := blk_cell b1' 0
        have u1 := blk_cell b1' 1
        have u2 := blk_cell b1' 2
        have u3 := blk_cell b1' 3
        have v0 := blk_cell b2 0
        have v1 := blk_cell b2 1
        have v2 := blk_cell b2 2
        simp at u0 u1 u2 u3 v0 v1 v2
        have HFIN := hd (And.intro ho2 (And.intro hg2 hB2))
        have HU := hd (And.intro u0 (And.intro u1 (And.intro u2 (And.intro u3 (And.intro v0 (And.intro v1 v2))))))
        clear ho1 hg1 hB1 ho2 hg2 hB2 b1 b1' b2 r2 hol hog hb11 HOW u0 u1 u2 u3 v0 v1 v2
        go_wp2
        obtain ⟨u0, u1, u2, u3, v0, v1, v2⟩ := HU.out
        obtain ⟨e1, e2⟩ := HLX.out
        have e3 := HGX.out
        exact bodyPost_ret (v := .tuple #[.agg #[.string (nm 0), .int .i64 (st 0), .slice A7 LX.length c7, .slice A8 GX.length c8], .agg #[.int .i64 (rCnt bs gs tol 0 (bs 0).length), .int .i64 (rCnt bs gs tol 1 (bs 0).length), .int .i64 (rCnt bs gs tol 2 (bs 0).length)]]) (by simp [results, Tryz.results14, go_sem, u0, u1, u2, u3, v0, v1, v2]) rfl ⟨_, _, rfl, by rw [← e1, ← e2]; exact own_base HFIN.out.1 (by show w.heap.size ≤ wr.heap.size; omega), by rw [← e3]; exact own_base HFIN.out.2.1 (by show w.heap.size ≤ wr.heap.size; omega), HFIN.out.2.2⟩
end Go.Proofs.YtbmeadlamjppgaaGreatDoor
