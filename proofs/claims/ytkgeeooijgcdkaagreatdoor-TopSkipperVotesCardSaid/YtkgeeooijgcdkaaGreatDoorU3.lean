/-
  A record that the theorems of the whole copy. Conditions: at most 100000 levels and gaps.
-/
import Derived.Test.YtkgeeooijgcdkaaGreatDoorProg
import Derived.Test.YtkgeeooijgcdkaaGreatDoorMK
import Derived.Test.YtkgeeooijgcdkaaGreatDoorH2
import Derived.Test.YtkgeeooijgcdkaaGreatDoorMR
import Derived.Test.YtkgeeooijgcdkaaGreatDoorMS
import Derived.Test.YtkgeeooijgcdkaaGreatDoorET
import Derived.Deep.RegionHeld3
namespace Go.Proofs.YtkgeeooijgcdkaaGreatDoor
open Go.RowKit
attribute [local go_sem] Oper.semAt_some

/-- A record that was copied. -/
def SRec (nm : ByteArray) (st : Int) (bs : List Nat) (gs : List (Int × Int)) (w : World) (e : Ending) (w' : World) : Prop :=
  ∃ lv gv, e = .returned (.agg #[.string nm, .int .i64 st, lv, gv]) ∧ Rd w' w'.heap.size lv bs.length (flc bs) ∧ Rd w' w'.heap.size gv gs.length (spc gs) ∧ Full lv ∧ Full gv ∧ Below w.heap.size w w'
theorem full_none {A : Option Addr} {n c : Nat} (h : Full (.slice A n c)) (e : A = none) : n = 0 ∧ c = 0 := by
  rcases h with h | ⟨ad, n', c', h⟩
  · injection h with e1 e2 e3; exact ⟨e2, e3⟩
  · injection h with e1 e2 e3; rw [e] at e1; cases e1
theorem rd_news {w X : World} {A : Option Addr} {n c : Nat} {xs : List Value} (h : Rd w w.heap.size (.slice A n c) n xs) (hx : xs ≠ [] → 0 < n) (hb : Below w.heap.size w X) (ad : Addr) (ha : A = some ad) (j : Nat) (u : Value) (hu : xs[j]? = some u) : X.cell? (ad.add j) = some u := by
  have hj : j < xs.length := (List.getElem?_eq_some_iff.1 hu).1
  obtain ⟨A', c', e', -, -, hcl⟩ := h
  cases e'
  obtain ⟨b, off, e1, hbb, hc⟩ := hcl (hx (fun e => by rw [e] at hj; simp at hj))
  rw [ha] at e1
  cases e1
  have e : (⟨b, off, none⟩ : Addr).add j = ⟨b, off + j, none⟩ := by unfold Addr.add; split <;> simp_all
  rw [e]
  exact (hb.cell (p := ⟨b, off + j, none⟩) hbb).trans ((hc j hj).trans hu)

set_option maxRecDepth 1000000 in
set_option maxHeartbeats 4000000 in
theorem sRec_any (nm : ByteArray) (st : Int) (A A2 : Option Addr) (c c2 : Nat) (bs : List Nat) (gs : List (Int × Int)) (w : World) (hl : Rd w w.heap.size (.slice A bs.length c) bs.length (flc bs)) (hg : Rd w w.heap.size (.slice A2 gs.length c2) gs.length (spc gs)) (fl : Full (.slice A bs.length c)) (fg : Full (.slice A2 gs.length c2)) (hn : bs.length ≤ 100000) (hm : gs.length ≤ 100000) :
    Calls Tryz.prog 8 #[.agg #[.string nm, .int .i64 st, .slice A bs.length c, .slice A2 gs.length c2]] w (SRec nm st bs gs w) := by
  obtain ⟨i0, hi, hz0, hz1, hz2⟩ := info_parts spanInfo
  obtain ⟨j0, hj, hy0, hy1, hy2⟩ := info_parts floatInfo
  have HJ := hd (And.intro hj (And.intro hy0 (And.intro hy1 hy2)))
  have HI := hd (And.intro hi (And.intro hz0 (And.intro hz1 hz2)))
  have HN1 := hd (full_none fl)
  have HN2 := hd (full_none fg)
  have HW1 := hd (fun (X : World) hb => rd_news (X := X) hl (fun h => by rcases Nat.eq_zero_or_pos bs.length with h0 | h0; (exact absurd (by simp [List.eq_nil_of_length_eq_zero h0, flc]) h); exact h0) hb)
  have HW2 := hd (fun (X : World) hb => rd_news (X := X) hg (fun h => by rcases Nat.eq_zero_or_pos gs.length with h0 | h0; (exact absurd (by simp [List.eq_nil_of_length_eq_zero h0, spc]) h); exact h0) hb)
  have H63 := hd (show 0 + bs.length ≤ maxLen by unfold maxLen; omega)
  have HBY := hd (show (0 + bs.length) * 4 ≤ 140737488355328 by omega)
  have G63 := hd (show 0 + gs.length ≤ maxLen by unfold maxLen; omega)
  have GBY := hd (show (0 + gs.length) * 16 ≤ 140737488355328 by omega)
  obtain ⟨W1, hW1⟩ : ∃ W1, W1 = ((w.alloc (Obj.cells #[.string nm, .int .i64 st, .slice A bs.length c, .slice A2 gs.length c2] 25)).alloc (Obj.cells #[.string ⟨#[]⟩, .int .i64 0, .slice none 0 0, .slice none 0 0] 30)) := ⟨_, rfl⟩
  have hs1 : W1.heap.size = w.heap.size + 2 := by rw [hW1]; simp
  have hB : Below w.heap.size w W1 := by rw [hW1]; exact ((Below.refl _ w).alloc (Nat.le_refl _) _).alloc (by simp) _
  have hq : W1.heap[w.heap.size]? = some (.cells #[.string nm, .int .i64 st, .slice A bs.length c, .slice A2 gs.length c2] 25 (0, 0)) := by
    rw [hW1, Below.heap_alloc _ _ _ (by simp)]; exact blk_new _ _ _
  have hr : W1.heap[w.heap.size + 1]? = some (.cells #[.string ⟨#[]⟩, .int .i64 0, .slice none 0 0, .slice none 0 0] 30 (0, 0)) := by
    have h1 := blk_new (w.alloc (Obj.cells #[.string nm, .int .i64 st, .slice A bs.length c, .slice A2 gs.length c2] 25)) #[.string ⟨#[]⟩, .int .i64 0, .slice none 0 0, .slice none 0 0] 30
    simp only [World.size_alloc] at h1
    rw [hW1]; exact h1
  have HB := hd hB
  have HQ := hd hq
  have HR := hd hr
  have HS := hd hs1
  have q0 := blk_cell hq 0
  have q1 := blk_cell hq 1
  have q2 := blk_cell hq 2
  have q3 := blk_cell hq 3
  simp at q0 q1 q2 q3
  have hle := hB.size
  have hwW : w.heap.size < W1.heap.size := by omega
  have hwW2 : w.heap.size + 1 < W1.heap.size := by omega
  have hnB : W1.heap.size ≠ w.heap.size := by omega
  have hnB' := hnB.symm
  have hnD : W1.heap.size + 1 ≠ w.heap.size := by omega
  have hnD' := hnD.symm
  have HA1 := hd (show (W1.alloc (Obj.cells #[] 39)).drew.ownsRow W1.heap.size 39 1 (.slice (some ⟨W1.heap.size, 0, none⟩) 0 0) 0 [] from World.ownsRow.drew (World.ownsRow_lit W1 #[] 0 (Nat.le_refl _) (by decide) rfl))
  have HA2 := hd (show ((W1.alloc (Obj.cells #[] 39)).alloc (Obj.cells #[] 54)).drew.ownsRow W1.heap.size 39 1 (.slice (some ⟨W1.heap.size, 0, none⟩) 0 0) 0 [] from World.ownsRow.drew (World.ownsRow.alloc (World.ownsRow_lit W1 #[] 0 (Nat.le_refl _) (by decide) rfl) _))
  have HA3 := hd (show ((W1.alloc (Obj.cells #[] 54)).alloc (Obj.cells #[] 39)).drew.ownsRow W1.heap.size 39 1 (.slice (some ⟨W1.heap.size + 1, 0, none⟩) 0 0) 0 [] from by
    have h := World.ownsRow_lit (W1.alloc (Obj.cells #[] 54)) #[] 0 (e := 39) (size := 1) (Nat.le_refl _) (by decide) rfl
    rw [World.size_alloc] at h
    exact World.ownsRow.drew (own_base h (by show W1.heap.size ≤ W1.heap.size + 1; omega)))
  have HC2 := hd (show ((W1.alloc (Obj.cells #[] 39)).alloc (Obj.cells #[] 54)).drew.ownsRow W1.heap.size 54 2 (.slice (some ⟨W1.heap.size + 1, 0, none⟩) 0 0) 0 [] from by
    have h := World.ownsRow_lit (W1.alloc (Obj.cells #[] 39)) #[] 0 (e := 54) (size := 2) (Nat.le_refl _) (by decide) rfl
    rw [World.size_alloc] at h
    exact World.ownsRow.drew (own_base h (by show W1.heap.size ≤ W1.heap.size + 1; omega)))
  have HC3 := hd (show ((W1.alloc (Obj.cells #[] 54)).alloc (Obj.cells #[] 39)).drew.ownsRow W1.heap.size 54 2 (.slice (some ⟨W1.heap.size, 0, none⟩) 0 0) 0 [] from World.ownsRow.drew (World.ownsRow.alloc (World.ownsRow_lit W1 #[] 0 (Nat.le_refl _) (by decide) rfl) _))
  clear hs1 hl hg fl fg hB hq hr hi hz0 hz1 hz2 hj hy0 hy1 hy2
  go_enter Tryz.func8, Tryz.ntmps8
  go_wp2_with fail
  rw [← hW1]
  clear hW1
  go_region_held3 (fun x => x.cell? ⟨w.heap.size, 0, none⟩ = some (.string nm) ∧ x.cell? ⟨w.heap.size, 1, none⟩ = some (.int .i64 st) ∧ x.cell? ⟨w.heap.size, 2, none⟩ = some (.slice A bs.length c) ∧ x.cell? ⟨w.heap.size, 3, none⟩ = some (.slice A2 gs.length c2)) (go_keep)
    (first
      | (refine step_append_opt (W1.alloc (Obj.cells #[] 39)).drew (by rfl) (.tmp 7) (.tmp 9) 22 (by rfl) W1.heap.size 39 j0 (.float .f32 0) 1 4 Tryz.underlying22 HJ.out.1 HJ.out.2.1 HJ.out.2.2.1 HJ.out.2.2.2 rfl (by decide) (.slice (some ⟨W1.heap.size, 0, none⟩) 0 0) 0 [] (by rfl) HA1.out A bs.length c (flc bs) (by rfl) (by simp [flc]) HN1.out (HW1.out _ (HB.out.alloc hle _).drew) (one_flc bs) H63.out HBY.out (by simp <;> omega) ?_; intro v4 w4 hown4 hg4; simp only [Nat.zero_add, List.nil_append] at hown4; have hW4 : Below W1.heap.size W1 w4 := ((Below.refl _ W1).alloc (Nat.le_refl _) _).drew.grown hg4 (by simp <;> omega) (fun kk hk => by simp [Value.ownBlock] at hk; omega); obtain ⟨A4, c4, hv4, -⟩ := own_form hown4; subst hv4; have hq4 := (hW4.block _ (blk_lt HQ.out)).trans HQ.out; have N0 := blk_cell hq4 0; have N1 := blk_cell hq4 1; have N2 := blk_cell hq4 2; have N3 := blk_cell hq4 3; simp at N0 N1 N2 N3; have hs4 := hW4.size; have hnC : w4.heap.size ≠ w.heap.size := (by have := HS.out; omega); have hnC' := hnC.symm; have HO4 := hd hown4; have HW4 := hd hW4; clear hown4 hg4 hW4 hq4)
      | (refine step_append_opt ((W1.alloc (Obj.cells #[] 39)).alloc (Obj.cells #[] 54)).drew (by rfl) (.tmp 7) (.tmp 9) 22 (by rfl) W1.heap.size 39 j0 (.float .f32 0) 1 4 Tryz.underlying22 HJ.out.1 HJ.out.2.1 HJ.out.2.2.1 HJ.out.2.2.2 rfl (by decide) (.slice (some ⟨W1.heap.size, 0, none⟩) 0 0) 0 [] (by rfl) HA2.out A bs.length c (flc bs) (by rfl) (by simp [flc]) HN1.out (HW1.out _ ((HB.out.alloc hle _).alloc (by simp <;> omega) _).drew) (one_flc bs) H63.out HBY.out (by simp <;> omega) ?_; intro v4 w4 hown4 hg4; simp only [Nat.zero_add, List.nil_append] at hown4; have hW4 : Below W1.heap.size W1 w4 := (((Below.refl _ W1).alloc (Nat.le_refl _) _).alloc (by simp) _).drew.grown hg4 (by simp <;> omega) (fun kk hk => by simp [Value.ownBlock] at hk; omega); have HR4 := hd (HC2.out.kept hg4 (own_types HC2.out HA2.out (by decide))); obtain ⟨A4, c4, hv4, -⟩ := own_form hown4; subst hv4; have hq4 := (hW4.block _ (blk_lt HQ.out)).trans HQ.out; have N0 := blk_cell hq4 0; have N1 := blk_cell hq4 1; have N2 := blk_cell hq4 2; have N3 := blk_cell hq4 3; simp at N0 N1 N2 N3; have hs4 := hW4.size; have hnC : w4.heap.size ≠ w.heap.size := (by have := HS.out; omega); have hnC' := hnC.symm; have HO4 := hd hown4; have HW4 := hd hW4; clear hown4 hg4 hW4 hq4)
      | (refine step_append_opt ((W1.alloc (Obj.cells #[] 54)).alloc (Obj.cells #[] 39)).drew (by rfl) (.tmp 7) (.tmp 9) 22 (by rfl) W1.heap.size 39 j0 (.float .f32 0) 1 4 Tryz.underlying22 HJ.out.1 HJ.out.2.1 HJ.out.2.2.1 HJ.out.2.2.2 rfl (by decide) (.slice (some ⟨W1.heap.size + 1, 0, none⟩) 0 0) 0 [] (by rfl) HA3.out A bs.length c (flc bs) (by rfl) (by simp [flc]) HN1.out (HW1.out _ ((HB.out.alloc hle _).alloc (by simp <;> omega) _).drew) (one_flc bs) H63.out HBY.out (by simp <;> omega) ?_; intro v4 w4 hown4 hg4; simp only [Nat.zero_add, List.nil_append] at hown4; have hW4 : Below W1.heap.size W1 w4 := (((Below.refl _ W1).alloc (Nat.le_refl _) _).alloc (by simp) _).drew.grown hg4 (by simp <;> omega) (fun kk hk => by simp [Value.ownBlock] at hk; omega); have HR4 := hd (HC3.out.kept hg4 (own_types HC3.out HA3.out (by decide))); obtain ⟨A4, c4, hv4, -⟩ := own_form hown4; subst hv4; have hq4 := (hW4.block _ (blk_lt HQ.out)).trans HQ.out; have N0 := blk_cell hq4 0; have N1 := blk_cell hq4 1; have N2 := blk_cell hq4 2; have N3 := blk_cell hq4 3; simp at N0 N1 N2 N3; have hs4 := hW4.size; have hnC : w4.heap.size ≠ w.heap.size := (by have := HS.out; omega); have hnC' := hnC.symm; have HO4 := hd hown4; have HW4 := hd hW4; clear hown4 hg4 hW4 hq4)
      | (refine step_append_opt (w4.alloc (Obj.cells #[] 54)) (by rfl) (.tmp 11) (.tmp 13) 23 (by rfl) W1.heap.size 54 i0 (.agg #[.int .i64 0, .int .i64 0]) 2 16 Tryz.underlying23 HI.out.1 HI.out.2.1 HI.out.2.2.1 HI.out.2.2.2 rfl (by decide) (.slice (some ⟨w4.heap.size, 0, none⟩) 0 0) 0 [] (by rfl) (show (w4.alloc (Obj.cells #[] 54)).ownsRow W1.heap.size 54 2 (.slice (some ⟨w4.heap.size, 0, none⟩) 0 0) 0 [] from own_base (World.ownsRow_lit w4 #[] 0 (Nat.le_refl _) (by decide) rfl) HW4.out.size) A2 gs.length c2 (spc gs) (by rfl) (by simp [spc_len] <;> omega) HN2.out (HW2.out _ (HB.out.trans ((HW4.out.alloc HW4.out.size _).mono HB.out.size))) (one_spc gs) G63.out GBY.out (by have := HW4.out.size; simp <;> omega) ?_; intro v5 w5 hown5 hg5; simp only [Nat.zero_add, List.nil_append] at hown5; have hW5 : Below W1.heap.size W1 w5 := (HW4.out.alloc HW4.out.size _).grown hg5 (by have := HW4.out.size; simp <;> omega) (fun kk hk => by simp [Value.ownBlock] at hk; have := HW4.out.size; omega); have ho5 := World.ownsRow.kept (World.ownsRow.alloc HO4.out (Obj.cells #[] 54)) hg5 (own_types (World.ownsRow.alloc HO4.out (Obj.cells #[] 54)) (show (w4.alloc (Obj.cells #[] 54)).ownsRow W1.heap.size 54 2 (.slice (some ⟨w4.heap.size, 0, none⟩) 0 0) 0 [] from own_base (World.ownsRow_lit w4 #[] 0 (Nat.le_refl _) (by decide) rfl) HW4.out.size) (by decide)); obtain ⟨A5, c5, hv5, -⟩ := own_form hown5; subst hv5; have hr5 := (hW5.block _ (blk_lt HQ.out)).trans HQ.out; have M0 := blk_cell hr5 0; have M1 := blk_cell hr5 1; have M2 := blk_cell hr5 2; have M3 := blk_cell hr5 3; simp at M0 M1 M2 M3; have hq5 := (hW5.block _ (blk_lt HR.out)).trans HR.out; have p0 := blk_cell hq5 0; have p1 := blk_cell hq5 1; have p2 := blk_cell hq5 2; have p3 := blk_cell hq5 3; simp at p0 p1 p2 p3; have f0 := blk_frozen hq5 0; have f1 := blk_frozen hq5 1; have f2 := blk_frozen hq5 2; have f3 := blk_frozen hq5 3; have HO5 := hd (And.intro ho5 hown5); have HW5 := hd (And.intro hW5 hq5); clear hown5 hg5 hW5 hr5 hq5 ho5)
      | (refine step_append_opt w4 (by rfl) (.tmp 11) (.tmp 13) 23 (by rfl) W1.heap.size 54 i0 (.agg #[.int .i64 0, .int .i64 0]) 2 16 Tryz.underlying23 HI.out.1 HI.out.2.1 HI.out.2.2.1 HI.out.2.2.2 rfl (by decide) (.slice (some ⟨W1.heap.size + 1, 0, none⟩) 0 0) 0 [] (by rfl) HR4.out A2 gs.length c2 (spc gs) (by rfl) (by simp [spc_len] <;> omega) HN2.out (HW2.out _ (HB.out.trans ((HW4.out).mono HB.out.size))) (one_spc gs) G63.out GBY.out (by have := HW4.out.size; simp <;> omega) ?_; intro v5 w5 hown5 hg5; simp only [Nat.zero_add, List.nil_append] at hown5; have hW5 : Below W1.heap.size W1 w5 := (HW4.out).grown hg5 (by have := HW4.out.size; simp <;> omega) (fun kk hk => by simp [Value.ownBlock] at hk; have := HW4.out.size; omega); have ho5 := World.ownsRow.kept HO4.out hg5 (own_types HO4.out HR4.out (by decide)); obtain ⟨A5, c5, hv5, -⟩ := own_form hown5; subst hv5; have hr5 := (hW5.block _ (blk_lt HQ.out)).trans HQ.out; have M0 := blk_cell hr5 0; have M1 := blk_cell hr5 1; have M2 := blk_cell hr5 2; have M3 := blk_cell hr5 3; simp at M0 M1 M2 M3; have hq5 := (hW5.block _ (blk_lt HR.out)).trans HR.out; have p0 := blk_cell hq5 0; have p1 := blk_cell hq5 1; have p2 := blk_cell hq5 2; have p3 := blk_cell hq5 3; simp at p0 p1 p2 p3; have f0 := blk_frozen hq5 0; have f1 := blk_frozen hq5 1; have f2 := blk_frozen hq5 2; have f3 := blk_frozen hq5 3; have HO5 := hd (And.intro ho5 hown5); have HW5 := hd (And.intro hW5 hq5); clear hown5 hg5 hW5 hr5 hq5 ho5)
      | (refine step_append_opt w4 (by rfl) (.tmp 11) (.tmp 13) 23 (by rfl) W1.heap.size 54 i0 (.agg #[.int .i64 0, .int .i64 0]) 2 16 Tryz.underlying23 HI.out.1 HI.out.2.1 HI.out.2.2.1 HI.out.2.2.2 rfl (by decide) (.slice (some ⟨W1.heap.size, 0, none⟩) 0 0) 0 [] (by rfl) HR4.out A2 gs.length c2 (spc gs) (by rfl) (by simp [spc_len] <;> omega) HN2.out (HW2.out _ (HB.out.trans ((HW4.out).mono HB.out.size))) (one_spc gs) G63.out GBY.out (by have := HW4.out.size; simp <;> omega) ?_; intro v5 w5 hown5 hg5; simp only [Nat.zero_add, List.nil_append] at hown5; have hW5 : Below W1.heap.size W1 w5 := (HW4.out).grown hg5 (by have := HW4.out.size; simp <;> omega) (fun kk hk => by simp [Value.ownBlock] at hk; have := HW4.out.size; omega); have ho5 := World.ownsRow.kept HO4.out hg5 (own_types HO4.out HR4.out (by decide)); obtain ⟨A5, c5, hv5, -⟩ := own_form hown5; subst hv5; have hr5 := (hW5.block _ (blk_lt HQ.out)).trans HQ.out; have M0 := blk_cell hr5 0; have M1 := blk_cell hr5 1; have M2 := blk_cell hr5 2; have M3 := blk_cell hr5 3; simp at M0 M1 M2 M3; have hq5 := (hW5.block _ (blk_lt HR.out)).trans HR.out; have p0 := blk_cell hq5 0; have p1 := blk_cell hq5 1; have p2 := blk_cell hq5 2; have p3 := blk_cell hq5 3; simp at p0 p1 p2 p3; have f0 := blk_frozen hq5 0; have f1 := blk_frozen hq5 1; have f2 := blk_frozen hq5 2; have f3 := blk_frozen hq5 3; have HO5 := hd (And.intro ho5 hown5); have HW5 := hd (And.intro hW5 hq5); clear hown5 hg5 hW5 hr5 hq5 ho5))
  all_goals
    have hq := set4_blk HW5.out.2 (.string nm) (.int .i64 st) (.slice A4 bs.length c4) (.slice A5 gs.length c5)
    have z0 := blk_cell hq 0
    have z1 := blk_cell hq 1
    have z2 := blk_cell hq 2
    have z3 := blk_cell hq 3
    simp at z0 z1 z2 z3
    have HL5 := hd (rd_of_own (own_set4 (R := w.heap.size + 1) (a := .string nm) (b := .int .i64 st) (c := .slice A4 bs.length c4) (d := .slice A5 gs.length c5) HO5.out.1 (by have := HS.out; omega)))
    have HG5 := hd (rd_of_own (own_set4 (R := w.heap.size + 1) (a := .string nm) (b := .int .i64 st) (c := .slice A4 bs.length c4) (d := .slice A5 gs.length c5) HO5.out.2 (by have := HS.out; omega)))
    have HF5 := hd (And.intro (full_own HO5.out.1) (full_own HO5.out.2))
    have HB5 := hd (set4_below (HB.out.trans (HW5.out.1.mono HB.out.size)) (R := w.heap.size + 1) (by omega) (.string nm) (.int .i64 st) (.slice A4 bs.length c4) (.slice A5 gs.length c5))
    change Exit.then _ _ _ _ (set4 w5 (w.heap.size + 1) (.string nm) (.int .i64 st) (.slice A4 bs.length c4) (.slice A5 gs.length c5))
    generalize set4 w5 (w.heap.size + 1) (.string nm) (.int .i64 st) (.slice A4 bs.length c4) (.slice A5 gs.length c5) = W6 at *
    clear HO5 HW5 HO4 f0 f1 f2 f3 p0 p1 p2 p3 M0 M1 M2 M3 hq
    go_wp2
    exact bodyPost_ret (v := .agg #[.string nm, .int .i64 st, .slice A4 bs.length c4, .slice A5 gs.length c5]) (by simp [results, Tryz.results8, go_sem, z0, z1, z2, z3]) rfl ⟨_, _, rfl, HL5.out, HG5.out, HF5.out.1, HF5.out.2, HB5.out⟩
end Go.Proofs.YtkgeeooijgcdkaaGreatDoor
