/-
  Plain words of gauge.Vote: levels, marks and deviations of the votes of ballots.
  Contract of gauge.Vote. Conditions: three valid records with the same start and number of levels, a tolerance from 0 to 2048.
-/
import Derived.Test.YtkgkpcmokmhakaaGreatDoorProg
import Derived.Test.YtkgkpcmokmhakaaGreatDoorV9
import Derived.Test.YtkgkpcmokmhakaaGreatDoorME
import Derived.Deep.RegionHeld3

namespace Go.Proofs.YtkgkpcmokmhakaaGreatDoor
open Go.RowKit Go.Shelf

/-- The vote at an index; what the levels, the marks and the numbers of deviations are behind so many indices. -/
def vL (F : Bal) (tol : Int) (i : Nat) : Nat × Bool := resF (fun r => flO (F i r)) (fun r => (F i r).isSome) tol
def vLev (F : Bal) (tol : Int) (n m : Nat) : List Nat := (List.range n).map (fun j => if decide (j < m) && (vL F tol j).2 then (vL F tol j).1 else 0)
def vMrk (F : Bal) (tol : Int) (n m : Nat) : List Bool := (List.range n).map (fun j => decide (j < m) && (vL F tol j).2)
def vDev (F : Bal) (tol : Int) (i g : Nat) : Bool := (vL F tol i).2 && devF (fun r => flO (F i r)) (fun r => (F i r).isSome) (vL F tol i).1 tol g
def vCnt (F : Bal) (tol : Int) (g : Nat) : Nat → Int
  | 0 => 0
  | m + 1 => vCnt F tol g m + (if vDev F tol m g then 1 else 0)
theorem vCnt_le (F : Bal) (tol : Int) (g : Nat) : ∀ m : Nat, 0 ≤ vCnt F tol g m ∧ vCnt F tol g m ≤ (m : Int)
  | 0 => by simp [vCnt]
  | m + 1 => by
    have := vCnt_le F tol g m
    unfold vCnt
    split <;> omega
theorem vLev_len (F : Bal) (tol : Int) (n m : Nat) : (vLev F tol n m).length = n := by simp [vLev]
theorem vMrk_len (F : Bal) (tol : Int) (n m : Nat) : (vMrk F tol n m).length = n := by simp [vMrk]
theorem vLev_zero (F : Bal) (tol : Int) (n : Nat) : vLev F tol n 0 = List.replicate n 0 := by
  apply List.ext_getElem
  · simp [vLev]
  · intro i h1 h2; simp [vLev]
theorem vMrk_zero (F : Bal) (tol : Int) (n : Nat) : vMrk F tol n 0 = List.replicate n false := by
  apply List.ext_getElem
  · simp [vMrk]
  · intro i h1 h2; simp [vMrk]
theorem vLev_no {F : Bal} {tol : Int} {m : Nat} (n : Nat) (h : (vL F tol m).2 = false) : vLev F tol n (m + 1) = vLev F tol n m := by
  apply List.ext_getElem
  · simp [vLev]
  · intro i h1 h2
    simp only [vLev, List.getElem_map, List.getElem_range]
    by_cases e : i = m
    · subst e; simp [h]
    · rw [show decide (i < m + 1) = decide (i < m) by simp; omega]
theorem vMrk_no {F : Bal} {tol : Int} {m : Nat} (n : Nat) (h : (vL F tol m).2 = false) : vMrk F tol n (m + 1) = vMrk F tol n m := by
  apply List.ext_getElem
  · simp [vMrk]
  · intro i h1 h2
    simp only [vMrk, List.getElem_map, List.getElem_range]
    by_cases e : i = m
    · subst e; simp [h]
    · rw [show decide (i < m + 1) = decide (i < m) by simp; omega]
theorem vLev_yes {F : Bal} {tol : Int} {m : Nat} (n : Nat) (h : (vL F tol m).2 = true) : flc (vLev F tol n (m + 1)) = (flc (vLev F tol n m)).set m (.float .f32 (vL F tol m).1) := by
  apply List.ext_getElem
  · simp [vLev, flc]
  · intro i h1 h2
    simp only [vLev, flc, List.getElem_map, List.getElem_range, List.getElem_set]
    by_cases e : m = i
    · subst e; simp [h]
    · rw [if_neg e, show decide (i < m + 1) = decide (i < m) by simp; omega]
theorem vMrk_yes {F : Bal} {tol : Int} {m : Nat} (n : Nat) (h : (vL F tol m).2 = true) : (vMrk F tol n (m + 1)).map Value.bool = ((vMrk F tol n m).map Value.bool).set m (.bool true) := by
  apply List.ext_getElem
  · simp [vMrk]
  · intro i h1 h2
    simp only [vMrk, List.getElem_map, List.getElem_range, List.getElem_set]
    by_cases e : m = i
    · subst e; simp [h]
    · rw [if_neg e, show decide (i < m + 1) = decide (i < m) by simp; omega]
theorem swp_lev {t : Nat → Nat} {m : Nat} (h : m + 1 < 3) (ht : ∀ i, i < 3 → levOK (t i) = true) : ∀ i, i < 3 → levOK (swp t (m + 1) i) = true := by
  intro i hi
  unfold swp
  split
  · exact ht _ (by omega)
  · split
    · exact ht _ (by omega)
    · exact ht _ hi
theorem inr_lev : ∀ (m : Nat) (t : Nat → Nat), m < 3 → (∀ i, i < 3 → levOK (t i) = true) → ∀ i, i < 3 → levOK (inr m t i) = true
  | 0, _, _, ht => ht
  | m + 1, t, hm, ht => by
    unfold inr
    split
    · exact inr_lev m _ (by omega) (swp_lev hm ht)
    · exact ht
theorem fmx_lev {a b : Nat} (ha : levOK a = true) (hb : levOK b = true) : levOK (fmx a b) = true := by
  unfold fmx; repeat' split
  all_goals assumption
/-- The level of a vote is a valid one. -/
theorem resF_lev {x : Nat → Nat} {k : Nat → Bool} {tol : Int} (hx : ∀ i, i < 3 → k i = true → levOK (x i) = true) (h : (resF x k tol).2 = true) : levOK (resF x k tol).1 = true := by
  by_cases h3 : (k 0 && k 1 && k 2) = true
  · rw [resF_three h3]
    simp only [Bool.and_eq_true] at h3
    have hx' : ∀ i, i < 3 → levOK (x i) = true := by
      intro i hi
      refine hx i hi ?_
      rcases (show i = 0 ∨ i = 1 ∨ i = 2 by omega) with rfl | rfl | rfl
      · exact h3.1.1
      · exact h3.1.2
      · exact h3.2
    exact inr_lev 2 _ (by omega) (inr_lev 1 _ (by omega) hx') 1 (by omega)
  · have h3' : (k 0 && k 1 && k 2) = false := by simpa using h3
    have hok := thr_ok hx
    match hL : thr x k 3 with
    | [] => rw [resF_few h3' (by rw [hL]; simp)] at h; cases h
    | [_] => rw [resF_few h3' (by rw [hL]; simp)] at h; cases h
    | a :: b :: l =>
      rw [hL] at hok
      rw [resF_two h3' hL] at h ⊢
      by_cases hd : dst a b > tol
      · rw [if_pos hd] at h; cases h
      · rw [if_neg hd]; exact fmx_lev (hok a (by simp)) (hok b (by simp))
end Go.Proofs.YtkgkpcmokmhakaaGreatDoor

namespace Go.Proofs.YtkgkpcmokmhakaaGreatDoor
open Go.RowKit Go.Shelf
attribute [local go_sem] Oper.semAt_some idx3b0 idx3b1 idx3b2

/-- What holds between the rounds of Vote. -/
structure VI (n₀ LB MB DB B7 n : Nat) (w : World) (REC : Array Value) (Av : Option Addr) (cv : Nat) (cb : List Value) (L M : List Value) (D : Array Value) (W : World) : Prop where
  lev : W.ownsRow n₀ 60 1 (.slice (some ⟨LB, 0, none⟩) n n) n L
  mrk : W.ownsRow n₀ 4 1 (.slice (some ⟨MB, 0, none⟩) n n) n M
  dev : W.heap[DB]? = some (.cells D 76 (0, 0))
  bal : W.ownsRow B7 129 6 (.slice Av n cv) n cb
  rec0 : W.heap[n₀]? = some (.cells REC 64 (0, 0))
  rec1 : W.heap[n₀ + 1]? = some (.cells #[.string ⟨#[]⟩, .int .i64 0, .slice none 0 0, .slice none 0 0] 35 (0, 0))
  rec2 : W.heap[n₀ + 2]? = some (.cells #[.int .i64 0, .int .i64 0, .int .i64 0] 76 (0, 0))
  bel : Below n₀ w W
section
variable {n₀ LB MB DB B7 n : Nat} {w : World} {REC : Array Value} {Av : Option Addr} {cv : Nat} {cb : List Value} {L M : List Value} {D : Array Value} {W W' : World}
theorem VI.below (h : VI n₀ LB MB DB B7 n w REC Av cv cb L M D W) (hb : Below W.heap.size W W') : VI n₀ LB MB DB B7 n w REC Av cv cb L M D W' :=
  ⟨own_bel h.lev hb, own_bel h.mrk hb, (hb.block _ (blk_lt h.dev)).trans h.dev, own_bel h.bal hb, (hb.block _ (blk_lt h.rec0)).trans h.rec0, (hb.block _ (blk_lt h.rec1)).trans h.rec1, (hb.block _ (blk_lt h.rec2)).trans h.rec2, h.bel.trans (hb.mono (Nat.le_of_lt (blk_lt h.rec0)))⟩
theorem own_far {B e s k X i : Nat} {v u : Value} {xs : List Value} (h : W.ownsRow B e s v k xs) (hX : v.ownBlock = none ∨ v.ownBlock ≠ some X) : (W.setCell ⟨X, i, none⟩ u).ownsRow B e s v k xs := h.kept (gb_set W X i u) hX
theorem bal_far (h : W.ownsRow B7 129 6 (.slice Av n cv) n cb) {X : Nat} (hX : X < B7) : (Value.slice Av n cv).ownBlock = none ∨ (Value.slice Av n cv).ownBlock ≠ some X := by
  cases hq : (Value.slice Av n cv).ownBlock with
  | none => exact .inl rfl
  | some g => exact .inr (fun e => by cases e; have := (h.lt _ hq).1; omega)
theorem VI.setL (h : VI n₀ LB MB DB B7 n w REC Av cv cb L M D W) (h1 : n₀ + 3 ≤ LB) (h2 : LB < MB) (h3 : MB < DB) (h4 : DB < B7) (i : Nat) (u : Value) : VI n₀ LB MB DB B7 n w REC Av cv cb (L.set i u) M D (W.setCell ⟨LB, i, none⟩ u) :=
  ⟨(h.lev.stored i u).1, h.mrk.kept (gb_set W LB i u) (.inr (by simp [Value.ownBlock]; omega)), (Below.heap_setCell W ⟨LB, i, none⟩ u _ (by show DB ≠ LB; omega)).trans h.dev, h.bal.kept (gb_set W LB i u) (bal_far h.bal (by omega)),
   (Below.heap_setCell W ⟨LB, i, none⟩ u _ (by show n₀ ≠ LB; omega)).trans h.rec0, (Below.heap_setCell W ⟨LB, i, none⟩ u _ (by show n₀ + 1 ≠ LB; omega)).trans h.rec1, (Below.heap_setCell W ⟨LB, i, none⟩ u _ (by show n₀ + 2 ≠ LB; omega)).trans h.rec2, h.bel.setCell (p := ⟨LB, i, none⟩) (by show n₀ ≤ LB; omega) u⟩
theorem VI.setM (h : VI n₀ LB MB DB B7 n w REC Av cv cb L M D W) (h1 : n₀ + 3 ≤ LB) (h2 : LB < MB) (h3 : MB < DB) (h4 : DB < B7) (i : Nat) (u : Value) : VI n₀ LB MB DB B7 n w REC Av cv cb L (M.set i u) D (W.setCell ⟨MB, i, none⟩ u) :=
  ⟨h.lev.kept (gb_set W MB i u) (.inr (by simp [Value.ownBlock]; omega)), (h.mrk.stored i u).1, (Below.heap_setCell W ⟨MB, i, none⟩ u _ (by show DB ≠ MB; omega)).trans h.dev, h.bal.kept (gb_set W MB i u) (bal_far h.bal (by omega)),
   (Below.heap_setCell W ⟨MB, i, none⟩ u _ (by show n₀ ≠ MB; omega)).trans h.rec0, (Below.heap_setCell W ⟨MB, i, none⟩ u _ (by show n₀ + 1 ≠ MB; omega)).trans h.rec1, (Below.heap_setCell W ⟨MB, i, none⟩ u _ (by show n₀ + 2 ≠ MB; omega)).trans h.rec2, h.bel.setCell (p := ⟨MB, i, none⟩) (by show n₀ ≤ MB; omega) u⟩
theorem VI.setD (h : VI n₀ LB MB DB B7 n w REC Av cv cb L M D W) (h1 : n₀ + 3 ≤ LB) (h2 : LB < MB) (h3 : MB < DB) (h4 : DB < B7) (i : Nat) (u : Value) : VI n₀ LB MB DB B7 n w REC Av cv cb L M (D.setIfInBounds i u) (W.setCell ⟨DB, i, none⟩ u) :=
  ⟨h.lev.kept (gb_set W DB i u) (.inr (by simp [Value.ownBlock]; omega)), h.mrk.kept (gb_set W DB i u) (.inr (by simp [Value.ownBlock]; omega)), blk_set h.dev i u, h.bal.kept (gb_set W DB i u) (bal_far h.bal (by omega)),
   (Below.heap_setCell W ⟨DB, i, none⟩ u _ (by show n₀ ≠ DB; omega)).trans h.rec0, (Below.heap_setCell W ⟨DB, i, none⟩ u _ (by show n₀ + 1 ≠ DB; omega)).trans h.rec1, (Below.heap_setCell W ⟨DB, i, none⟩ u _ (by show n₀ + 2 ≠ DB; omega)).trans h.rec2, h.bel.setCell (p := ⟨DB, i, none⟩) (by show n₀ ≤ DB; omega) u⟩
theorem own_set4 {B e s k R : Nat} {v a b c d : Value} {xs : List Value} (h : W.ownsRow B e s v k xs) (hX : R < B) : (set4 W R a b c d).ownsRow B e s v k xs := by
  have hq : v.ownBlock = none ∨ v.ownBlock ≠ some R := by
    cases hq : v.ownBlock with
    | none => exact .inl rfl
    | some g => exact .inr (fun e => by cases e; have := (h.lt _ hq).1; omega)
  exact own_far (own_far (own_far (own_far h hq) hq) hq) hq
def set3 (W : World) (R : Nat) (a b c : Value) : World := ((W.setCell ⟨R, 0, none⟩ a).setCell ⟨R, 1, none⟩ b).setCell ⟨R, 2, none⟩ c
theorem own_set3 {B e s k R : Nat} {v a b c : Value} {xs : List Value} (h : W.ownsRow B e s v k xs) (hX : R < B) : (set3 W R a b c).ownsRow B e s v k xs := by
  have hq : v.ownBlock = none ∨ v.ownBlock ≠ some R := by
    cases hq : v.ownBlock with
    | none => exact .inl rfl
    | some g => exact .inr (fun e => by cases e; have := (h.lt _ hq).1; omega)
  exact own_far (own_far (own_far h hq) hq) hq
theorem set3_other (W : World) {R D : Nat} (h : D ≠ R) (a b c : Value) : (set3 W R a b c).heap[D]? = W.heap[D]? := by
  simp only [set3, Below.heap_setCell _ ⟨R, _, none⟩ _ D h]
theorem set3_below {n : Nat} (h : Below n w W) {R : Nat} (hn : n ≤ R) (a b c : Value) : Below n w (set3 W R a b c) :=
  ((h.setCell (p := ⟨R, 0, none⟩) hn a).setCell (p := ⟨R, 1, none⟩) hn b).setCell (p := ⟨R, 2, none⟩) hn c
end
theorem bal_lev {F : Bal} (h : okB F) (i : Nat) : ∀ r, r < 3 → (F i r).isSome = true → levOK (flO (F i r)) = true := by
  intro r _ hr
  cases hF : F i r with
  | none => rw [hF] at hr; cases hr
  | some b => exact h _ _ _ hF
theorem res_bal {F : Bal} (h : okB F) (tol : Int) (i : Nat) (w : World) : Calls Tryz.prog 63 #[.agg #[.float .f32 (flO (F i 0)), .float .f32 (flO (F i 1)), .float .f32 (flO (F i 2)), .bool (F i 0).isSome, .bool (F i 1).isSome, .bool (F i 2).isSome], .int .i64 tol] w fun e w' => e = .returned (.tuple #[.float .f32 (vL F tol i).1, .bool (vL F tol i).2]) ∧ Below w.heap.size w w' :=
  res_any (fun r => flO (F i r)) (fun r => (F i r).isSome) tol (bal_lev h i) w
theorem dev_bal {F : Bal} (h : okB F) (tol : Int) (i : Nat) (w : World) (hk : (vL F tol i).2 = true) : Calls Tryz.prog 64 #[.agg #[.float .f32 (flO (F i 0)), .float .f32 (flO (F i 1)), .float .f32 (flO (F i 2)), .bool (F i 0).isSome, .bool (F i 1).isSome, .bool (F i 2).isSome], .float .f32 (vL F tol i).1, .int .i64 tol] w fun e w' => e = .returned (.agg #[.bool (vDev F tol i 0), .bool (vDev F tol i 1), .bool (vDev F tol i 2)]) ∧ Below w.heap.size w w' := by
  have e : ∀ g, vDev F tol i g = devF (fun r => flO (F i r)) (fun r => (F i r).isSome) (vL F tol i).1 tol g := fun g => by unfold vDev; rw [hk]; rfl
  rw [e 0, e 1, e 2]
  exact dev_any (fun r => flO (F i r)) (fun r => (F i r).isSome) (vL F tol i).1 tol (bal_lev h i) (resF_lev (bal_lev h i) hk) w
/-- The numbers of deviations behind m of the three gauges of index i. -/
def cD (F : Bal) (tol : Int) (i m : Nat) : Array Value := #[.int .i64 (vCnt F tol 0 i + (if decide (0 < m) && vDev F tol i 0 then 1 else 0)), .int .i64 (vCnt F tol 1 i + (if decide (1 < m) && vDev F tol i 1 then 1 else 0)), .int .i64 (vCnt F tol 2 i + (if decide (2 < m) && vDev F tol i 2 then 1 else 0))]
theorem cD_zero (F : Bal) (tol : Int) (i : Nat) : cD F tol i 0 = #[.int .i64 (vCnt F tol 0 i), .int .i64 (vCnt F tol 1 i), .int .i64 (vCnt F tol 2 i)] := by simp [cD]
theorem cD_three (F : Bal) (tol : Int) (i : Nat) : cD F tol i 3 = cD F tol (i + 1) 0 := by simp [cD, vCnt]
theorem cD_no {F : Bal} {tol : Int} {i : Nat} (h : (vL F tol i).2 = false) : cD F tol (i + 1) 0 = cD F tol i 0 := by simp [cD, vCnt, vDev, h]

set_option maxRecDepth 1000000 in
set_option maxHeartbeats 8000000 in
theorem vote_any (nm : Nat → ByteArray) (st : Nat → Int) (lv gv : Nat → Value) (bs : Nat → List Nat) (gs : Nat → List (Int × Int)) (tol : Int) (w : World) (hl : ∀ g, g < 3 → Rd w w.heap.size (lv g) (bs g).length (flc (bs g))) (hg : ∀ g, g < 3 → Rd w w.heap.size (gv g) (gs g).length (spc (gs g))) (V : ∀ g, g < 3 → Valid (nm g) (st g) (bs g) (gs g)) (hn : ∀ g, g < 3 → (bs g).length = (bs 0).length) (hst : ∀ g, g < 3 → st g = st 0) (ht : 0 ≤ tol ∧ tol ≤ 2048) :
    Calls Tryz.prog 29 #[.agg (rec3 nm st lv gv), .int .i64 tol] w (fun e w' => ∃ lv' gv', e = .returned (.tuple #[.agg #[.string (nm 0), .int .i64 (st 0), lv', gv'], .agg #[.int .i64 (vCnt (balF bs gs 3) tol 0 (bs 0).length), .int .i64 (vCnt (balF bs gs 3) tol 1 (bs 0).length), .int .i64 (vCnt (balF bs gs 3) tol 2 (bs 0).length)], .int .i64 0]) ∧
      w'.ownsRow w.heap.size 60 1 lv' (bs 0).length (flc (asmK (vLev (balF bs gs 3) tol (bs 0).length (bs 0).length) (vMrk (balF bs gs 3) tol (bs 0).length (bs 0).length) (bs 0).length)) ∧
      w'.ownsRow w.heap.size 50 2 gv' (strF (misK (vMrk (balF bs gs 3) tol (bs 0).length (bs 0).length) (bs 0).length (bs 0).length) (bs 0).length).length (spc (strF (misK (vMrk (balF bs gs 3) tol (bs 0).length (bs 0).length) (bs 0).length (bs 0).length) (bs 0).length)) ∧ Below w.heap.size w w') := by
  obtain ⟨i0, hi, hz0, hz1, hz2⟩ := info_parts floatInfo
  obtain ⟨j0, ji, jz0, jz1, jz2⟩ := info_parts boolInfo
  have HBA := hd (fun (W : World) (hb : Below w.heap.size w W) => ballots_any nm st lv gv bs gs (bs 0).length W (fun g hg' => ((hl g hg').below hb (Nat.le_refl _)).mono hb.size) (fun g hg' => ((hg g hg').below hb (Nat.le_refl _)).mono hb.size) V hn)
  have hrt := hd (show rng tol 0 2048 = 0 by unfold rng; rw [if_pos ⟨by omega, by omega⟩])
  have CR0 := fun (W : World) (hb : Below w.heap.size w W) => chkRec_ok (nm 0) (st 0) (lv 0) (gv 0) (bs 0) (gs 0) W (((hl 0 (by omega)).below hb (Nat.le_refl _)).mono hb.size) (((hg 0 (by omega)).below hb (Nat.le_refl _)).mono hb.size) (V 0 (by omega))
  obtain ⟨A0, c0', hl0, hq10, hq20, -⟩ := hl 0 (by omega)
  obtain ⟨B0, d0', hg0, -⟩ := hg 0 (by omega)
  have hb0 := (V 0 (by omega)).most
  have CR1 := fun (W : World) (hb : Below w.heap.size w W) => chkRec_ok (nm 1) (st 1) (lv 1) (gv 1) (bs 1) (gs 1) W (((hl 1 (by omega)).below hb (Nat.le_refl _)).mono hb.size) (((hg 1 (by omega)).below hb (Nat.le_refl _)).mono hb.size) (V 1 (by omega))
  obtain ⟨A1, c1', hl1, hq11, hq21, -⟩ := hl 1 (by omega)
  obtain ⟨B1, d1', hg1, -⟩ := hg 1 (by omega)
  have hb1 := (V 1 (by omega)).most
  have CR2 := fun (W : World) (hb : Below w.heap.size w W) => chkRec_ok (nm 2) (st 2) (lv 2) (gv 2) (bs 2) (gs 2) W (((hl 2 (by omega)).below hb (Nat.le_refl _)).mono hb.size) (((hg 2 (by omega)).below hb (Nat.le_refl _)).mono hb.size) (V 2 (by omega))
  obtain ⟨A2, c2', hl2, hq12, hq22, -⟩ := hl 2 (by omega)
  obtain ⟨B2, d2', hg2, -⟩ := hg 2 (by omega)
  have hb2 := (V 2 (by omega)).most
  unfold maxLen at hq20
  have hn1 := hn 1 (by omega)
  have hn2 := hn 2 (by omega)
  have hs1 := hst 1 (by omega)
  have hs2 := hst 2 (by omega)
  have HF1 := hd (fun W => fit_any (nm 0) (nm 1) (st 0) (st 1) A0 B0 A1 B1 (bs 0).length c0' (gs 0).length d0' (bs 1).length c1' (gs 1).length d1' W)
  have HF2 := hd (fun W => fit_any (nm 0) (nm 2) (st 0) (st 2) A0 B0 A2 B2 (bs 0).length c0' (gs 0).length d0' (bs 2).length c2' (gs 2).length d2' W)
  have hd1 := hd (show (decide (st 0 = st 1) && decide ((bs 0).length = (bs 1).length)) = true by simp [hs1, hn1])
  have hd2 := hd (show (decide (st 0 = st 2) && decide ((bs 0).length = (bs 2).length)) = true by simp [hs2, hn2])
  rw [hd1.out] at HF1
  rw [hd2.out] at HF2
  unfold rec3
  unfold rec3 at HBA
  rw [hl0, hg0] at CR0
  have HC0 := hd CR0
  clear CR0
  rw [hl1, hg1] at CR1
  have HC1 := hd CR1
  clear CR1
  rw [hl2, hg2] at CR2
  have HC2 := hd CR2
  clear CR2
  rw [hl0, hl1, hl2, hg0, hg1, hg2] at HBA
  rw [hl0, hl1, hl2, hg0, hg1, hg2]
  clear hl hg V hn hst hl0 hl1 hl2 hg0 hg1 hg2 hn1 hn2 hs1 hs2 ht hd1 hd2
  obtain ⟨F, hF⟩ : ∃ F, F = balF bs gs 3 := ⟨_, rfl⟩
  have HOK := hd (show okB F by rw [hF]; exact balF_ok bs gs 3)
  rw [← hF] at HBA ⊢
  clear hF
  go_enter Tryz.func29, Tryz.ntmps29
  go_wp2_with fail
  obtain ⟨W0, hW0⟩ : ∃ W0, W0 = ((w.alloc (.cells #[.string (nm 0), .int .i64 (st 0), .slice A0 (bs 0).length c0', .slice B0 (gs 0).length d0', .string (nm 1), .int .i64 (st 1), .slice A1 (bs 1).length c1', .slice B1 (gs 1).length d1', .string (nm 2), .int .i64 (st 2), .slice A2 (bs 2).length c2', .slice B2 (gs 2).length d2'] 64)).alloc (.cells #[.string ⟨#[]⟩, .int .i64 0, .slice none 0 0, .slice none 0 0] 35)).alloc (.cells #[.int .i64 0, .int .i64 0, .int .i64 0] 76) := ⟨_, rfl⟩
  have hsz : W0.heap.size = w.heap.size + 3 := by rw [hW0]; simp
  have hb0' : Below w.heap.size w W0 := by rw [hW0]; exact (((Below.refl _ w).alloc (Nat.le_refl _) _).alloc (by simp) _).alloc (by simp; omega) _
  have HR0 := hd (show W0.heap[w.heap.size]? = some (.cells #[.string (nm 0), .int .i64 (st 0), .slice A0 (bs 0).length c0', .slice B0 (gs 0).length d0', .string (nm 1), .int .i64 (st 1), .slice A1 (bs 1).length c1', .slice B1 (gs 1).length d1', .string (nm 2), .int .i64 (st 2), .slice A2 (bs 2).length c2', .slice B2 (gs 2).length d2'] 64 (0, 0)) by
    rw [hW0, Below.heap_alloc _ _ _ (by simp; omega), Below.heap_alloc _ _ _ (by simp)]; exact blk_new _ _ _)
  have HR1 := hd (show W0.heap[w.heap.size + 1]? = some (.cells #[.string ⟨#[]⟩, .int .i64 0, .slice none 0 0, .slice none 0 0] 35 (0, 0)) by
    have h1 := blk_new (w.alloc (.cells #[.string (nm 0), .int .i64 (st 0), .slice A0 (bs 0).length c0', .slice B0 (gs 0).length d0', .string (nm 1), .int .i64 (st 1), .slice A1 (bs 1).length c1', .slice B1 (gs 1).length d1', .string (nm 2), .int .i64 (st 2), .slice A2 (bs 2).length c2', .slice B2 (gs 2).length d2'] 64)) #[.string ⟨#[]⟩, .int .i64 0, .slice none 0 0, .slice none 0 0] 35
    simp only [World.size_alloc] at h1
    rw [hW0, Below.heap_alloc _ _ _ (by simp)]; exact h1)
  have HR2 := hd (show W0.heap[w.heap.size + 2]? = some (.cells #[.int .i64 0, .int .i64 0, .int .i64 0] 76 (0, 0)) by
    have h1 := blk_new ((w.alloc (.cells #[.string (nm 0), .int .i64 (st 0), .slice A0 (bs 0).length c0', .slice B0 (gs 0).length d0', .string (nm 1), .int .i64 (st 1), .slice A1 (bs 1).length c1', .slice B1 (gs 1).length d1', .string (nm 2), .int .i64 (st 2), .slice A2 (bs 2).length c2', .slice B2 (gs 2).length d2'] 64)).alloc (.cells #[.string ⟨#[]⟩, .int .i64 0, .slice none 0 0, .slice none 0 0] 35)) #[.int .i64 0, .int .i64 0, .int .i64 0] 76
    simp only [World.size_alloc] at h1
    rw [hW0]; exact h1)
  rw [← hW0]
  clear hW0
  have F0 : ∀ p : Bw W0, p.out.cell? ⟨w.heap.size, 0, none⟩ = some (#[.string (nm 0), .int .i64 (st 0), .slice A0 (bs 0).length c0', .slice B0 (gs 0).length d0', .string (nm 1), .int .i64 (st 1), .slice A1 (bs 1).length c1', .slice B1 (gs 1).length d1', .string (nm 2), .int .i64 (st 2), .slice A2 (bs 2).length c2', .slice B2 (gs 2).length d2'] : Array Value)[0] := fun p => p.cell (by omega) (by simpa using blk_cell HR0.out 0)
  simp only [List.getElem_toArray, List.getElem_cons_zero] at F0
  have F1 : ∀ p : Bw W0, p.out.cell? ⟨w.heap.size, 1, none⟩ = some (#[.string (nm 0), .int .i64 (st 0), .slice A0 (bs 0).length c0', .slice B0 (gs 0).length d0', .string (nm 1), .int .i64 (st 1), .slice A1 (bs 1).length c1', .slice B1 (gs 1).length d1', .string (nm 2), .int .i64 (st 2), .slice A2 (bs 2).length c2', .slice B2 (gs 2).length d2'] : Array Value)[1] := fun p => p.cell (by omega) (by simpa using blk_cell HR0.out 1)
  simp only [List.getElem_toArray, List.getElem_cons_succ, List.getElem_cons_zero] at F1
  have F2 : ∀ p : Bw W0, p.out.cell? ⟨w.heap.size, 2, none⟩ = some (#[.string (nm 0), .int .i64 (st 0), .slice A0 (bs 0).length c0', .slice B0 (gs 0).length d0', .string (nm 1), .int .i64 (st 1), .slice A1 (bs 1).length c1', .slice B1 (gs 1).length d1', .string (nm 2), .int .i64 (st 2), .slice A2 (bs 2).length c2', .slice B2 (gs 2).length d2'] : Array Value)[2] := fun p => p.cell (by omega) (by simpa using blk_cell HR0.out 2)
  simp only [List.getElem_toArray, List.getElem_cons_succ, List.getElem_cons_zero] at F2
  have F3 : ∀ p : Bw W0, p.out.cell? ⟨w.heap.size, 3, none⟩ = some (#[.string (nm 0), .int .i64 (st 0), .slice A0 (bs 0).length c0', .slice B0 (gs 0).length d0', .string (nm 1), .int .i64 (st 1), .slice A1 (bs 1).length c1', .slice B1 (gs 1).length d1', .string (nm 2), .int .i64 (st 2), .slice A2 (bs 2).length c2', .slice B2 (gs 2).length d2'] : Array Value)[3] := fun p => p.cell (by omega) (by simpa using blk_cell HR0.out 3)
  simp only [List.getElem_toArray, List.getElem_cons_succ, List.getElem_cons_zero] at F3
  have F4 : ∀ p : Bw W0, p.out.cell? ⟨w.heap.size, 4, none⟩ = some (#[.string (nm 0), .int .i64 (st 0), .slice A0 (bs 0).length c0', .slice B0 (gs 0).length d0', .string (nm 1), .int .i64 (st 1), .slice A1 (bs 1).length c1', .slice B1 (gs 1).length d1', .string (nm 2), .int .i64 (st 2), .slice A2 (bs 2).length c2', .slice B2 (gs 2).length d2'] : Array Value)[4] := fun p => p.cell (by omega) (by simpa using blk_cell HR0.out 4)
  simp only [List.getElem_toArray, List.getElem_cons_succ, List.getElem_cons_zero] at F4
  have F5 : ∀ p : Bw W0, p.out.cell? ⟨w.heap.size, 5, none⟩ = some (#[.string (nm 0), .int .i64 (st 0), .slice A0 (bs 0).length c0', .slice B0 (gs 0).length d0', .string (nm 1), .int .i64 (st 1), .slice A1 (bs 1).length c1', .slice B1 (gs 1).length d1', .string (nm 2), .int .i64 (st 2), .slice A2 (bs 2).length c2', .slice B2 (gs 2).length d2'] : Array Value)[5] := fun p => p.cell (by omega) (by simpa using blk_cell HR0.out 5)
  simp only [List.getElem_toArray, List.getElem_cons_succ, List.getElem_cons_zero] at F5
  have F6 : ∀ p : Bw W0, p.out.cell? ⟨w.heap.size, 6, none⟩ = some (#[.string (nm 0), .int .i64 (st 0), .slice A0 (bs 0).length c0', .slice B0 (gs 0).length d0', .string (nm 1), .int .i64 (st 1), .slice A1 (bs 1).length c1', .slice B1 (gs 1).length d1', .string (nm 2), .int .i64 (st 2), .slice A2 (bs 2).length c2', .slice B2 (gs 2).length d2'] : Array Value)[6] := fun p => p.cell (by omega) (by simpa using blk_cell HR0.out 6)
  simp only [List.getElem_toArray, List.getElem_cons_succ, List.getElem_cons_zero] at F6
  have F7 : ∀ p : Bw W0, p.out.cell? ⟨w.heap.size, 7, none⟩ = some (#[.string (nm 0), .int .i64 (st 0), .slice A0 (bs 0).length c0', .slice B0 (gs 0).length d0', .string (nm 1), .int .i64 (st 1), .slice A1 (bs 1).length c1', .slice B1 (gs 1).length d1', .string (nm 2), .int .i64 (st 2), .slice A2 (bs 2).length c2', .slice B2 (gs 2).length d2'] : Array Value)[7] := fun p => p.cell (by omega) (by simpa using blk_cell HR0.out 7)
  simp only [List.getElem_toArray, List.getElem_cons_succ, List.getElem_cons_zero] at F7
  have F8 : ∀ p : Bw W0, p.out.cell? ⟨w.heap.size, 8, none⟩ = some (#[.string (nm 0), .int .i64 (st 0), .slice A0 (bs 0).length c0', .slice B0 (gs 0).length d0', .string (nm 1), .int .i64 (st 1), .slice A1 (bs 1).length c1', .slice B1 (gs 1).length d1', .string (nm 2), .int .i64 (st 2), .slice A2 (bs 2).length c2', .slice B2 (gs 2).length d2'] : Array Value)[8] := fun p => p.cell (by omega) (by simpa using blk_cell HR0.out 8)
  simp only [List.getElem_toArray, List.getElem_cons_succ, List.getElem_cons_zero] at F8
  have F9 : ∀ p : Bw W0, p.out.cell? ⟨w.heap.size, 9, none⟩ = some (#[.string (nm 0), .int .i64 (st 0), .slice A0 (bs 0).length c0', .slice B0 (gs 0).length d0', .string (nm 1), .int .i64 (st 1), .slice A1 (bs 1).length c1', .slice B1 (gs 1).length d1', .string (nm 2), .int .i64 (st 2), .slice A2 (bs 2).length c2', .slice B2 (gs 2).length d2'] : Array Value)[9] := fun p => p.cell (by omega) (by simpa using blk_cell HR0.out 9)
  simp only [List.getElem_toArray, List.getElem_cons_succ, List.getElem_cons_zero] at F9
  have F10 : ∀ p : Bw W0, p.out.cell? ⟨w.heap.size, 10, none⟩ = some (#[.string (nm 0), .int .i64 (st 0), .slice A0 (bs 0).length c0', .slice B0 (gs 0).length d0', .string (nm 1), .int .i64 (st 1), .slice A1 (bs 1).length c1', .slice B1 (gs 1).length d1', .string (nm 2), .int .i64 (st 2), .slice A2 (bs 2).length c2', .slice B2 (gs 2).length d2'] : Array Value)[10] := fun p => p.cell (by omega) (by simpa using blk_cell HR0.out 10)
  simp only [List.getElem_toArray, List.getElem_cons_succ, List.getElem_cons_zero] at F10
  have F11 : ∀ p : Bw W0, p.out.cell? ⟨w.heap.size, 11, none⟩ = some (#[.string (nm 0), .int .i64 (st 0), .slice A0 (bs 0).length c0', .slice B0 (gs 0).length d0', .string (nm 1), .int .i64 (st 1), .slice A1 (bs 1).length c1', .slice B1 (gs 1).length d1', .string (nm 2), .int .i64 (st 2), .slice A2 (bs 2).length c2', .slice B2 (gs 2).length d2'] : Array Value)[11] := fun p => p.cell (by omega) (by simpa using blk_cell HR0.out 11)
  simp only [List.getElem_toArray, List.getElem_cons_succ, List.getElem_cons_zero] at F11
  have HPB := hd (fun p : Bw W0 => hb0'.trans (p.below.mono hb0'.size))
  refine wp_region_bw_tail 24 (by kernel_rfl) (by kernel_rfl) ?_
  simp only [List.take_succ_cons, List.take_zero, List.drop_succ_cons, List.drop_zero]
  repeat (first | go_big_quiet_step (fail))
  go_big_quiet_step (first | (go_at_call 33; exact Bw.call _ (HC0.out _ (HPB.out _))))
  repeat (first | go_big_quiet_step (fail))
  go_big_quiet_step (first | (go_at_call 33; exact Bw.call _ (HC1.out _ (HPB.out _))))
  repeat (first | go_big_quiet_step (fail))
  go_big_quiet_step (first | (go_at_call 33; exact Bw.call _ (HC2.out _ (HPB.out _))))
  repeat (first | go_big_quiet_step (first | (go_at_call 59; exact Bw.pure _ (rng_any _ _ _ _))))
  go_big_quiet_step (first | (go_at_call 61; exact Bw.call _ (HF1.out _)))
  repeat (first | go_big_quiet_step (fail))
  go_big_quiet_step (first | (go_at_call 61; exact Bw.call _ (HF2.out _)))
  repeat (first | go_big_quiet_step (first | (go_at_call 40; exact Bw.pure _ (unl_any _ _ _))))
  refine wpQuiet_nil ?_
  rintro ⟨W2, hB2⟩
  change wpList _ _ _ _ _ W2
  rw [hrt.out]
  have hz := hd (show fst0 [0, 0, 0, 0, unl true 2] = 0 by simp [fst0, unl])
  have HBW := hd (fun o => (hb0'.trans (hB2.mono hb0'.size)).alloc (Nat.le_trans hb0'.size hB2.size) o)
  have HRX := hd (fun o => (Below.heap_alloc W2 o w.heap.size (by have := hB2.size; omega)).trans ((hB2.block _ (show w.heap.size < W0.heap.size by omega)).trans HR0.out))
  have HRY := hd (fun o => (Below.heap_alloc W2 o (w.heap.size + 1) (by have := hB2.size; omega)).trans ((hB2.block _ (show w.heap.size + 1 < W0.heap.size by omega)).trans HR1.out))
  have HRZ := hd (fun o => (Below.heap_alloc W2 o (w.heap.size + 2) (by have := hB2.size; omega)).trans ((hB2.block _ (show w.heap.size + 2 < W0.heap.size by omega)).trans HR2.out))
  have k2 := fun o => cell_alloc_old (o := o) (F2 ⟨W2, hB2⟩)
  dsimp only at k2
  have hW2s := hB2.size
  have HBY1 := hd (show i0.bytes * (bs 0).length ≤ 281474976710656 by rw [hz2]; omega)
  have HBY2 := hd (show j0.bytes * (bs 0).length ≤ 281474976710656 by rw [jz2]; omega)
  have HMX := hd (show (bs 0).length ≤ maxLen by unfold maxLen; omega)
  clear F0 F1 F2 F3 F4 F5 F6 F7 F8 F9 F10 F11 hB2 HPB
  go_wp2_with (first | (go_at_call 39; refine (first5 _ _ _ _ _ _ _).mono ?_; rintro e w' ⟨rfl, rfl⟩; rw [hz.out]) | (at_make; refine wpList_make_full _ rfl (.tmp 51) (.tmp 51) 22 rfl w.heap.size 60 i0 (.float .f32 0) 1 Tryz.underlying22 hi hz0 hz1 .i64 .i64 ((bs 0).length : Int) ((bs 0).length : Int) (bs 0).length rfl rfl rfl rfl HBY1.out HMX.out (by simp; omega) ?_; intro w5 hown5 hgrow5; have HO5 := hd (And.intro hown5 hgrow5); have hw5 := hgrow5.size; simp only [World.size_alloc] at hw5; clear hown5 hgrow5) | (at_make; refine wpList_make_full _ rfl (.tmp 54) (.tmp 54) 92 rfl w.heap.size 4 j0 (.bool false) 1 Tryz.underlying92 ji jz0 jz1 .i64 .i64 ((bs 0).length : Int) ((bs 0).length : Int) (bs 0).length rfl rfl rfl rfl HBY2.out HMX.out (by omega) ?_; intro w6 hown6 hgrow6; have hra6 := (hgrow6.block w.heap.size (by omega) (by simp)).trans ((HO5.out.2.block w.heap.size (by simp; omega) (by simp)).trans (HRX.out _)); have y0 := fun o => cell_alloc_old (o := o) (blk_cell hra6 0 |>.trans (show _ = some _ from rfl)); have y1 := fun o => cell_alloc_old (o := o) (blk_cell hra6 1 |>.trans (show _ = some _ from rfl)); have y2 := fun o => cell_alloc_old (o := o) (blk_cell hra6 2 |>.trans (show _ = some _ from rfl)); have y3 := fun o => cell_alloc_old (o := o) (blk_cell hra6 3 |>.trans (show _ = some _ from rfl)); have y4 := fun o => cell_alloc_old (o := o) (blk_cell hra6 4 |>.trans (show _ = some _ from rfl)); have y5 := fun o => cell_alloc_old (o := o) (blk_cell hra6 5 |>.trans (show _ = some _ from rfl)); have y6 := fun o => cell_alloc_old (o := o) (blk_cell hra6 6 |>.trans (show _ = some _ from rfl)); have y7 := fun o => cell_alloc_old (o := o) (blk_cell hra6 7 |>.trans (show _ = some _ from rfl)); have y8 := fun o => cell_alloc_old (o := o) (blk_cell hra6 8 |>.trans (show _ = some _ from rfl)); have y9 := fun o => cell_alloc_old (o := o) (blk_cell hra6 9 |>.trans (show _ = some _ from rfl)); have y10 := fun o => cell_alloc_old (o := o) (blk_cell hra6 10 |>.trans (show _ = some _ from rfl)); have y11 := fun o => cell_alloc_old (o := o) (blk_cell hra6 11 |>.trans (show _ = some _ from rfl)); have HO6 := hd (And.intro hown6 (And.intro hgrow6 hra6)); clear hown6 hgrow6 hra6))
  obtain ⟨W7, hW7⟩ : ∃ W7, W7 = w6.alloc (.cells #[.int .i64 0, .int .i64 0, .int .i64 0] 76) := ⟨_, rfl⟩
  obtain ⟨hown5, hgrow5⟩ := HO5.out
  obtain ⟨hown6, hgrow6, hra6⟩ := HO6.out
  obtain ⟨LB, hLB⟩ : ∃ LB, LB = W2.heap.size + 1 := ⟨_, rfl⟩
  obtain ⟨MB, hMB⟩ : ∃ MB, MB = w5.heap.size := ⟨_, rfl⟩
  obtain ⟨DB, hDB⟩ : ∃ DB, DB = w6.heap.size := ⟨_, rfl⟩
  have hs7 : W7.heap.size = DB + 1 := by rw [hW7, hDB]; simp
  have hLM : LB < MB := by have := (hown5.lt _ rfl).2; rw [hLB, hMB]; simpa using this
  have hMD : MB < DB := by have := (hown6.lt _ rfl).2; rw [hMB, hDB]; simpa using this
  have hnL : w.heap.size + 3 ≤ LB := by omega
  have hbw5 : Below w.heap.size w w5 := (HBW.out _).grown hgrow5 (by simp; omega) (fun _ h => by cases h)
  have hbw6 : Below w.heap.size w w6 := hbw5.grown hgrow6 hbw5.size (fun _ h => by cases h)
  have hbw7 : Below w.heap.size w W7 := by rw [hW7]; exact hbw6.alloc hbw6.size _
  have hl7 : W7.ownsRow w.heap.size 60 1 (.slice (some ⟨LB, 0, none⟩) (bs 0).length (bs 0).length) (bs 0).length (flc (vLev F tol (bs 0).length 0)) := by
    have e : (madeCells (Value.float .f32 0).cells ((bs 0).length * 1)).toList = flc (vLev F tol (bs 0).length 0) := by
      rw [show (Value.float .f32 0).cells = #[Value.float .f32 0] from rfl, toList_madeCells_one, vLev_zero]; simp [flc]
    rw [← e, hW7, hLB]
    have := (hown5.kept hgrow6 (.inr (by simp [Value.ownBlock]))).alloc (Obj.cells #[.int .i64 0, .int .i64 0, .int .i64 0] 76)
    simpa using this
  have hm7 : W7.ownsRow w.heap.size 4 1 (.slice (some ⟨MB, 0, none⟩) (bs 0).length (bs 0).length) (bs 0).length ((vMrk F tol (bs 0).length 0).map Value.bool) := by
    have e : (madeCells (Value.bool false).cells ((bs 0).length * 1)).toList = (vMrk F tol (bs 0).length 0).map Value.bool := by
      rw [show (Value.bool false).cells = #[Value.bool false] from rfl, toList_madeCells_one, vMrk_zero]; simp
    rw [← e, hW7, hMB]
    exact hown6.alloc _
  have hd7 : W7.heap[DB]? = some (.cells (cD F tol 0 0) 76 (0, 0)) := by rw [hW7, hDB]; exact blk_new _ _ _
  have hr07 := (Below.heap_alloc w6 (Obj.cells #[.int .i64 0, .int .i64 0, .int .i64 0] 76) w.heap.size (by omega)).trans hra6
  have hr17 := (Below.heap_alloc w6 (Obj.cells #[.int .i64 0, .int .i64 0, .int .i64 0] 76) (w.heap.size + 1) (by omega)).trans ((hgrow6.block (w.heap.size + 1) (by omega) (by simp)).trans ((hgrow5.block (w.heap.size + 1) (by simp; omega) (by simp)).trans (HRY.out _)))
  have hr27 := (Below.heap_alloc w6 (Obj.cells #[.int .i64 0, .int .i64 0, .int .i64 0] 76) (w.heap.size + 2) (by omega)).trans ((hgrow6.block (w.heap.size + 2) (by omega) (by simp)).trans ((hgrow5.block (w.heap.size + 2) (by simp; omega) (by simp)).trans (HRZ.out _)))
  rw [← hW7] at hr07 hr17 hr27 ⊢
  rw [← hLB, ← hMB, ← hDB]
  have H7 := hd (And.intro hl7 (And.intro hm7 (And.intro hd7 (And.intro hr07 (And.intro hr17 (And.intro hr27 hbw7))))))
  clear hW7 hown5 hgrow5 hown6 hgrow6 hra6 HO5 HO6 hl7 hm7 hd7 hr07 hr17 hr27 hLB hMB hDB hbw5 hbw6 hw5 HRX HRY HRZ HBW k2 y0 y1 y2 y3 y4 y5 y6 y7 y8 y9 y10 y11
  refine (HBA.out _ hbw7).mono ?_
  rintro e w8 ⟨v, rfl, hown8, hb8⟩
  obtain ⟨Av, cv, hv, -⟩ := own_form hown8
  subst hv
  have HVI := hd (show VI w.heap.size LB MB DB W7.heap.size (bs 0).length w #[.string (nm 0), .int .i64 (st 0), .slice A0 (bs 0).length c0', .slice B0 (gs 0).length d0', .string (nm 1), .int .i64 (st 1), .slice A1 (bs 1).length c1', .slice B1 (gs 1).length d1', .string (nm 2), .int .i64 (st 2), .slice A2 (bs 2).length c2', .slice B2 (gs 2).length d2'] Av cv (cellsB (bs 0).length F) (flc (vLev F tol (bs 0).length 0)) ((vMrk F tol (bs 0).length 0).map Value.bool) (cD F tol 0 0) w8 from
    ⟨own_bel H7.out.1 hb8, own_bel H7.out.2.1 hb8, (hb8.block _ (by omega)).trans H7.out.2.2.1, hown8, (hb8.block _ (by omega)).trans H7.out.2.2.2.1, (hb8.block _ (by omega)).trans H7.out.2.2.2.2.1, (hb8.block _ (by omega)).trans H7.out.2.2.2.2.2.1, H7.out.2.2.2.2.2.2.trans (hb8.mono (by omega))⟩)
  have hD7 : DB < W7.heap.size := by omega
  clear hown8 hb8 H7 hbw7 HBA HC0 HC1 HC2 HF1 HF2
  go_wp2
  go_loopw [59] (fun i wr => ∃ m : Nat, m ≤ (bs 0).length ∧ i = .int .i64 m ∧ Hid (VI w.heap.size LB MB DB W7.heap.size (bs 0).length w #[.string (nm 0), .int .i64 (st 0), .slice A0 (bs 0).length c0', .slice B0 (gs 0).length d0', .string (nm 1), .int .i64 (st 1), .slice A1 (bs 1).length c1', .slice B1 (gs 1).length d1', .string (nm 2), .int .i64 (st 2), .slice A2 (bs 2).length c2', .slice B2 (gs 2).length d2'] Av cv (cellsB (bs 0).length F) (flc (vLev F tol (bs 0).length m)) ((vMrk F tol (bs 0).length m).map Value.bool) (cD F tol m 0) wr)) (fun i _ => (bs 0).length - (intOf i).toNat)
  case atStart => exact ⟨0, Nat.zero_le _, rfl, HVI⟩
  case round =>
    obtain ⟨m, hm, rfl, HI⟩ := hrel
    by_cases hlt : m < (bs 0).length
    · obtain ⟨gB, hgB⟩ : ∃ gB, Av = some ⟨gB, 0, none⟩ := by
        obtain ⟨Ax, cx, ex, hx⟩ := own_form HI.out.bal
        cases ex
        exact hx (by omega)
      subst hgB
      have hcel : ∀ r, r < 6 → wr.cell? ⟨gB, m * 6 + r, none⟩ = some (cellF F m r) := fun r hr => (HI.out.bal.cellAt (m * 6 + r) (by omega)).trans (cellsB_at _ F hlt hr)
      have q0 : wr.cell? ⟨gB, m * 6, none⟩ = some (.float .f32 (flO (F m 0))) := hcel 0 (by omega)
      have q1 : wr.cell? ⟨gB, m * 6 + 1, none⟩ = some (.float .f32 (flO (F m 1))) := hcel 1 (by omega)
      have q2 : wr.cell? ⟨gB, m * 6 + 2, none⟩ = some (.float .f32 (flO (F m 2))) := hcel 2 (by omega)
      have q3 : wr.cell? ⟨gB, m * 6 + 3, none⟩ = some (.bool (F m 0).isSome) := hcel 3 (by omega)
      have q4 : wr.cell? ⟨gB, m * 6 + 4, none⟩ = some (.bool (F m 1).isSome) := hcel 4 (by omega)
      have q5 : wr.cell? ⟨gB, m * 6 + 5, none⟩ = some (.bool (F m 2).isSome) := hcel 5 (by omega)
      clear hcel
      have hwr := HI.out.bel.size
      go_wp2_with fail
      refine (res_bal HOK.out tol m _).mono ?_
      rintro e w9 ⟨rfl, hb9⟩
      have hB9 : Below wr.heap.size wr w9 := ((Below.refl _ wr).alloc (Nat.le_refl _) _).trans (hb9.mono (by simp))
      have HI9 := hd (HI.out.below hB9)
      have HX9 := hd (show w9.heap[wr.heap.size]? = some (.cells #[.float .f32 (flO (F m 0)), .float .f32 (flO (F m 1)), .float .f32 (flO (F m 2)), .bool (F m 0).isSome, .bool (F m 1).isSome, .bool (F m 2).isSome] 129 (0, 0)) from (hb9.block _ (by simp)).trans (blk_new wr _ _))
      have hs9 := hB9.size
      have hD9 : W7.heap.size ≤ wr.heap.size := by have := (HI.out.bal.lt _ rfl); omega
      clear hb9 hB9 q0 q1 q2 q3 q4 q5
      cases hk : (vL F tol m).2
      · have HK := hd hk
        go_wp2
        go_roundw
        case rel => exact ⟨m + 1, by omega, by go_num, hd (by rw [vLev_no _ HK.out, vMrk_no _ HK.out, cD_no HK.out]; exact HI9.out)⟩
        case measure => simp [intOf]; omega
      · have HK := hd hk
        have l0 := HI9.out.lev.cellAt m (by omega)
        have l1 := HI9.out.lev.frozenAt m
        have m0 := HI9.out.mrk.cellAt m (by omega)
        have m1 := HI9.out.mrk.frozenAt m
        have x0 := blk_cell HX9.out 0
        have x1 := blk_cell HX9.out 1
        have x2 := blk_cell HX9.out 2
        have x3 := blk_cell HX9.out 3
        have x4 := blk_cell HX9.out 4
        have x5 := blk_cell HX9.out 5
        simp at x0 x1 x2 x3 x4 x5
        have l0' : w9.cell? ⟨LB, m, none⟩ = some (((flc (vLev F tol (bs 0).length m))[m]?).getD undef) := by
          rw [l0]; cases h : (flc (vLev F tol (bs 0).length m))[m]? with
          | some v => rfl
          | none => rw [List.getElem?_eq_none_iff] at h; simp [flc, vLev] at h; omega
        have m0' : w9.cell? ⟨MB, m, none⟩ = some ((((vMrk F tol (bs 0).length m).map Value.bool)[m]?).getD undef) := by
          rw [m0]; cases h : ((vMrk F tol (bs 0).length m).map Value.bool)[m]? with
          | some v => rfl
          | none => rw [List.getElem?_eq_none_iff] at h; simp [vMrk] at h; omega
        generalize ((flc (vLev F tol (bs 0).length m))[m]?).getD undef = lx at l0'
        generalize (((vMrk F tol (bs 0).length m).map Value.bool)[m]?).getD undef = mx at m0'
        have hmi : (m : Int) < ((bs 0).length : Int) := by omega
        clear l0 m0
        go_wp2_with fail
        refine (dev_bal HOK.out tol m _ HK.out).mono ?_
        rintro e w10 ⟨rfl, hb10⟩
        have HI10 := hd (show VI w.heap.size LB MB DB W7.heap.size (bs 0).length w #[.string (nm 0), .int .i64 (st 0), .slice A0 (bs 0).length c0', .slice B0 (gs 0).length d0', .string (nm 1), .int .i64 (st 1), .slice A1 (bs 1).length c1', .slice B1 (gs 1).length d1', .string (nm 2), .int .i64 (st 2), .slice A2 (bs 2).length c2', .slice B2 (gs 2).length d2'] (some ⟨gB, 0, none⟩) cv (cellsB (bs 0).length F) (flc (vLev F tol (bs 0).length (m + 1))) ((vMrk F tol (bs 0).length (m + 1)).map Value.bool) (cD F tol m 0) w10 by
          rw [vLev_yes _ HK.out, vMrk_yes _ HK.out]
          exact ((HI9.out.setL hnL hLM hMD hD7 m (.float .f32 (vL F tol m).1)).setM hnL hLM hMD hD7 m (.bool true)).below hb10)
        have hvc : ∀ g, 0 ≤ vCnt F tol g m ∧ vCnt F tol g m ≤ (m : Int) := fun g => vCnt_le F tol g m
        have hvc0 := hvc 0
        have hvc1 := hvc 1
        have hvc2 := hvc 2
        clear hb10 l0' l1 m0' m1 x0 x1 x2 x3 x4 x5 hvc HI9 HX9
        go_wp2
        go_loopw [83] (fun j wq => ∃ q : Nat, q ≤ 3 ∧ j = .int .i64 q ∧ Hid (VI w.heap.size LB MB DB W7.heap.size (bs 0).length w #[.string (nm 0), .int .i64 (st 0), .slice A0 (bs 0).length c0', .slice B0 (gs 0).length d0', .string (nm 1), .int .i64 (st 1), .slice A1 (bs 1).length c1', .slice B1 (gs 1).length d1', .string (nm 2), .int .i64 (st 2), .slice A2 (bs 2).length c2', .slice B2 (gs 2).length d2'] (some ⟨gB, 0, none⟩) cv (cellsB (bs 0).length F) (flc (vLev F tol (bs 0).length (m + 1))) ((vMrk F tol (bs 0).length (m + 1)).map Value.bool) (cD F tol m q) wq)) (fun j _ => 3 - (intOf j).toNat)
        case atStart => exact ⟨0, by omega, rfl, HI10⟩
        case round =>
          obtain ⟨q, hq, rfl, HJ⟩ := hrel
          by_cases hq3 : q < 3
          · rcases (show q = 0 ∨ q = 1 ∨ q = 2 by omega) with rfl | rfl | rfl
            · have d0 := blk_cell HJ.out.dev 0
              simp [cD] at d0
              have f0 := blk_frozen HJ.out.dev 0
              cases hv : vDev F tol m 0
              · have HVD := hd hv
                go_wp2
                go_roundw
                case rel => exact ⟨1, by omega, rfl, hd (by have := HJ.out; simpa [cD, HVD.out] using this)⟩
                case measure => simp [intOf]
              · have HVD := hd hv
                go_wp2
                go_roundw
                case rel => exact ⟨1, by omega, rfl, hd (by have := HJ.out.setD hnL hLM hMD hD7 0 (.int .i64 (vCnt F tol 0 m + 1)); simpa [cD, HVD.out] using this)⟩
                case measure => simp [intOf]
            · have d0 := blk_cell HJ.out.dev 1
              simp [cD] at d0
              have f0 := blk_frozen HJ.out.dev 1
              cases hv : vDev F tol m 1
              · have HVD := hd hv
                go_wp2
                go_roundw
                case rel => exact ⟨2, by omega, rfl, hd (by have := HJ.out; simpa [cD, HVD.out] using this)⟩
                case measure => simp [intOf]
              · have HVD := hd hv
                go_wp2
                go_roundw
                case rel => exact ⟨2, by omega, rfl, hd (by have := HJ.out.setD hnL hLM hMD hD7 1 (.int .i64 (vCnt F tol 1 m + 1)); simpa [cD, HVD.out] using this)⟩
                case measure => simp [intOf]
            · have d0 := blk_cell HJ.out.dev 2
              simp [cD] at d0
              have f0 := blk_frozen HJ.out.dev 2
              cases hv : vDev F tol m 2
              · have HVD := hd hv
                go_wp2
                go_roundw
                case rel => exact ⟨3, by omega, rfl, hd (by have := HJ.out; simpa [cD, HVD.out] using this)⟩
                case measure => simp [intOf]
              · have HVD := hd hv
                go_wp2
                go_roundw
                case rel => exact ⟨3, by omega, rfl, hd (by have := HJ.out.setD hnL hLM hMD hD7 2 (.int .i64 (vCnt F tol 2 m + 1)); simpa [cD, HVD.out] using this)⟩
                case measure => simp [intOf]
          · obtain rfl : q = 3 := by omega
            go_wp2
            go_roundw
            case rel => exact ⟨m + 1, by omega, by go_num, hd (by rw [← cD_three]; exact HJ.out)⟩
            case measure => simp [intOf]; omega
    · obtain rfl : m = (bs 0).length := by omega
      have n0 := blk_cell HI.out.rec0 0
      have n1 := blk_cell HI.out.rec0 1
      have d0 := blk_cell HI.out.dev 0
      have d1 := blk_cell HI.out.dev 1
      have d2 := blk_cell HI.out.dev 2
      simp [cD_zero] at n0 n1 d0 d1 d2
      have hwr := HI.out.bel.size
      have hne1 : w.heap.size + 1 ≠ DB := by omega
      have hne2 : w.heap.size + 2 ≠ DB := by omega
      have hne3 : w.heap.size + 1 + 1 ≠ DB := by omega
      have hne4 : w.heap.size + 1 + 1 ≠ w.heap.size := by omega
      have hne5 : w.heap.size + 2 ≠ w.heap.size := by omega
      have HAS := hd (fun (W : World) (hb : Below wr.heap.size wr W) => assemble_any (nm 0) (st 0) (.slice (some ⟨LB, 0, none⟩) (bs 0).length (bs 0).length) (.slice (some ⟨MB, 0, none⟩) (bs 0).length (bs 0).length) (vLev F tol (bs 0).length (bs 0).length) (vMrk F tol (bs 0).length (bs 0).length) W
        (by rw [vLev_len]; exact rd_of_own (own_bel HI.out.lev hb)) (by rw [vMrk_len]; exact rd_of_own (own_bel HI.out.mrk hb)) (by rw [vLev_len, vMrk_len]) (by rw [vLev_len]; omega))
      go_wp2_with fail
      go_region_held3 (fun x => x.cell? ⟨w.heap.size, 0, none⟩ = some (.string (nm 0)) ∧ x.cell? ⟨w.heap.size, 1, none⟩ = some (.int .i64 (st 0)) ∧ x.cell? ⟨DB, 0, none⟩ = some (.int .i64 (vCnt F tol 0 (bs 0).length)) ∧ x.cell? ⟨DB, 1, none⟩ = some (.int .i64 (vCnt F tol 1 (bs 0).length)) ∧ x.cell? ⟨DB, 2, none⟩ = some (.int .i64 (vCnt F tol 2 (bs 0).length))) (go_keep)
        (first | (go_at_call 65; refine (HAS.out _ ((Below.refl _ wr).drew)).mono ?_; rintro e w11 ⟨lv', gv', rfl, hol, hog, hb11⟩; have HI11 := hd (HI.out.below (((Below.refl _ wr).drew).trans hb11)); obtain ⟨A7, c7, hv7, -⟩ := own_form hol; obtain ⟨A8, c8, hv8, -⟩ := own_form hog; subst hv7; subst hv8; have HOW := hd (And.intro hol (And.intro hog hb11)); have N0 := blk_cell HI11.out.rec0 0; have N1 := blk_cell HI11.out.rec0 1; have D0 := blk_cell HI11.out.dev 0; have D1 := blk_cell HI11.out.dev 1; have D2 := blk_cell HI11.out.dev 2; have z0 := blk_cell HI11.out.rec1 0; have z1 := blk_cell HI11.out.rec1 1; have z2 := blk_cell HI11.out.rec1 2; have z3 := blk_cell HI11.out.rec1 3; have t0 := blk_cell HI11.out.rec2 0; have t1 := blk_cell HI11.out.rec2 1; have t2 := blk_cell HI11.out.rec2 2; simp [cD_zero] at N0 N1 D0 D1 D2 z0 z1 z2 z3 t0 t1 t2; have f0 := blk_frozen HI11.out.rec1 0; have f1 := blk_frozen HI11.out.rec1 1; have f2 := blk_frozen HI11.out.rec1 2; have f3 := blk_frozen HI11.out.rec1 3; have g0 := blk_frozen HI11.out.rec2 0; have g1 := blk_frozen HI11.out.rec2 1; have g2 := blk_frozen HI11.out.rec2 2; clear hol hog hb11 n0 n1 d0 d1 d2))
      obtain ⟨hol, hog, hb11⟩ := HOW.out
      have e7 : (asmK (vLev F tol (bs 0).length (bs 0).length) (vMrk F tol (bs 0).length (bs 0).length) (vLev F tol (bs 0).length (bs 0).length).length).length = (bs 0).length := by rw [asmK_len, vLev_len]
      have e8 : (strF (misK (vMrk F tol (bs 0).length (bs 0).length) (vLev F tol (bs 0).length (bs 0).length).length (vLev F tol (bs 0).length (bs 0).length).length) (vLev F tol (bs 0).length (bs 0).length).length) = strF (misK (vMrk F tol (bs 0).length (bs 0).length) (bs 0).length (bs 0).length) (bs 0).length := by rw [vLev_len]
      obtain ⟨S7, hS7⟩ : ∃ S, S = Value.slice A7 (asmK (vLev F tol (bs 0).length (bs 0).length) (vMrk F tol (bs 0).length (bs 0).length) (vLev F tol (bs 0).length (bs 0).length).length).length c7 := ⟨_, rfl⟩
      obtain ⟨S8, hS8⟩ : ∃ S, S = Value.slice A8 (strF (misK (vMrk F tol (bs 0).length (bs 0).length) (vLev F tol (bs 0).length (bs 0).length).length (vLev F tol (bs 0).length (bs 0).length).length) (vLev F tol (bs 0).length (bs 0).length).length).length c8 := ⟨_, rfl⟩
      rw [← hS7] at hol ⊢
      rw [← hS8] at hog ⊢
      clear hS7 hS8
      rw [e7, vLev_len] at hol
      rw [e8] at hog
      have hlt2 : w.heap.size + 2 < wr.heap.size := blk_lt HI.out.rec2
      have b1 := set4_blk HI11.out.rec1 (.string (nm 0)) (.int .i64 (st 0)) S7 S8
      have r2 := (set4_other w11 (R := w.heap.size + 1) (D := w.heap.size + 2) (by omega) (.string (nm 0)) (.int .i64 (st 0)) S7 S8).trans HI11.out.rec2
      have ho1 := own_set4 (R := w.heap.size + 1) (a := .string (nm 0)) (b := .int .i64 (st 0)) (c := S7) (d := S8) hol (by show w.heap.size + 1 < wr.heap.size; omega)
      have hg1 := own_set4 (R := w.heap.size + 1) (a := .string (nm 0)) (b := .int .i64 (st 0)) (c := S7) (d := S8) hog (by show w.heap.size + 1 < wr.heap.size; omega)
      have hB1 := set4_below HI11.out.bel (Nat.le_succ w.heap.size) (.string (nm 0)) (.int .i64 (st 0)) S7 S8
      have b2 := set3_blk r2 (.int .i64 (vCnt F tol 0 (bs 0).length)) (.int .i64 (vCnt F tol 1 (bs 0).length)) (.int .i64 (vCnt F tol 2 (bs 0).length))
      have b1' := (set3_other (set4 w11 (w.heap.size + 1) (.string (nm 0)) (.int .i64 (st 0)) S7 S8) (R := w.heap.size + 2) (D := w.heap.size + 1) (by omega) (.int .i64 (vCnt F tol 0 (bs 0).length)) (.int .i64 (vCnt F tol 1 (bs 0).length)) (.int .i64 (vCnt F tol 2 (bs 0).length))).trans b1
      have ho2 := own_set3 (R := w.heap.size + 2) (a := .int .i64 (vCnt F tol 0 (bs 0).length)) (b := .int .i64 (vCnt F tol 1 (bs 0).length)) (c := .int .i64 (vCnt F tol 2 (bs 0).length)) ho1 hlt2
      have hg2 := own_set3 (R := w.heap.size + 2) (a := .int .i64 (vCnt F tol 0 (bs 0).length)) (b := .int .i64 (vCnt F tol 1 (bs 0).length)) (c := .int .i64 (vCnt F tol 2 (bs 0).length)) hg1 hlt2
      have hB2 := set3_below hB1 (R := w.heap.size + 2) (by omega) (.int .i64 (vCnt F tol 0 (bs 0).length)) (.int .i64 (vCnt F tol 1 (bs 0).length)) (.int .i64 (vCnt F tol 2 (bs 0).length))
      change Exit.then _ _ _ _ (set3 (set4 w11 (w.heap.size + 1) (.string (nm 0)) (.int .i64 (st 0)) S7 S8) (w.heap.size + 2) (.int .i64 (vCnt F tol 0 (bs 0).length)) (.int .i64 (vCnt F tol 1 (bs 0).length)) (.int .i64 (vCnt F tol 2 (bs 0).length)))
      change (set3 (set4 w11 (w.heap.size + 1) (.string (nm 0)) (.int .i64 (st 0)) S7 S8) (w.heap.size + 2) (.int .i64 (vCnt F tol 0 (bs 0).length)) (.int .i64 (vCnt F tol 1 (bs 0).length)) (.int .i64 (vCnt F tol 2 (bs 0).length))).heap[w.heap.size + 2]? = _ at b2
      generalize set3 (set4 w11 (w.heap.size + 1) (.string (nm 0)) (.int .i64 (st 0)) S7 S8) (w.heap.size + 2) (.int .i64 (vCnt F tol 0 (bs 0).length)) (.int .i64 (vCnt F tol 1 (bs 0).length)) (.int .i64 (vCnt F tol 2 (bs 0).length)) = W13 at *
      have u0 := blk_cell b1' 0
      have u1 := blk_cell b1' 1
      have u2 := blk_cell b1' 2
      have u3 := blk_cell b1' 3
      have v0 := blk_cell b2 0
      have v1 := blk_cell b2 1
      have v2 := blk_cell b2 2
      simp at u0 u1 u2 u3 v0 v1 v2
      have HFIN := hd (And.intro ho2 (And.intro hg2 hB2))
      have HU := hd (And.intro u0 (And.intro u1 (And.intro u2 (And.intro u3 (And.intro v0 (And.intro v1 v2))))))
      clear ho1 hg1 hB1 ho2 hg2 hB2 b1 b1' b2 r2 hol hog hb11 HOW u0 u1 u2 u3 v0 v1 v2
      go_wp2
      obtain ⟨u0, u1, u2, u3, v0, v1, v2⟩ := HU.out
      exact bodyPost_ret (v := .tuple #[.agg #[.string (nm 0), .int .i64 (st 0), S7, S8], .agg #[.int .i64 (vCnt F tol 0 (bs 0).length), .int .i64 (vCnt F tol 1 (bs 0).length), .int .i64 (vCnt F tol 2 (bs 0).length)], .int .i64 0]) (by simp [results, Tryz.results29, go_sem, u0, u1, u2, u3, v0, v1, v2]) rfl ⟨_, _, rfl, own_base HFIN.out.1 (by show w.heap.size ≤ wr.heap.size; omega), own_base HFIN.out.2.1 (by show w.heap.size ≤ wr.heap.size; omega), HFIN.out.2.2⟩
end Go.Proofs.YtkgkpcmokmhakaaGreatDoor
