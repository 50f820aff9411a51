/-
  Contracts of the reference's Waters and Summary, at valid records.
-/
import Derived.Test.YtcekfcefdmejeaaGreatDoorProg
import Derived.Test.YtcekfcefdmejeaaGreatDoorT3
namespace Go.Proofs.YtcekfcefdmejeaaGreatDoor
open Go.RowKit
attribute [local go_sem] Oper.semAt_some

def wtsR (bs : List Nat) (gs : List (Int × Int)) (wd : Int) (neg : Bool) (k : Nat) : List Int := ((List.range k).filter fun i => watR bs gs wd neg i).map fun i : Nat => (i : Int)
theorem wtsR_succ (bs : List Nat) (gs : List (Int × Int)) (wd : Int) (neg : Bool) (k : Nat) : wtsR bs gs wd neg (k + 1) = wtsR bs gs wd neg k ++ if watR bs gs wd neg k = true then [(k : Int)] else [] := by
  unfold wtsR
  rw [List.range_succ, List.filter_append, List.map_append]
  congr 1
  by_cases h : watR bs gs wd neg k = true <;> simp [h]
theorem wtsR_len (bs : List Nat) (gs : List (Int × Int)) (wd : Int) (neg : Bool) (k : Nat) : (wtsR bs gs wd neg k).length ≤ k := by
  unfold wtsR
  rw [List.length_map]
  exact Nat.le_trans (List.length_filter_le _ _) (by simp)
theorem new_one (w : World) (a : Value) (T : TypeId) : ∀ j u, [a][j]? = some u → (w.alloc (.cells #[a] T)).cell? ((⟨w.heap.size, 0, none⟩ : Addr).add j) = some u := by
  intro j u hj
  match j, hj with
  | 0, hj => simp at hj; subst hj; simp [Addr.add, World.cell?_alloc_new]

set_option maxRecDepth 1000000 in
set_option maxHeartbeats 4000000 in
theorem refWaters_any (nm : ByteArray) (st : Int) (lv gv : Value) (bs : List Nat) (gs : List (Int × Int)) (wd : Int) (neg : Bool) (w : World) (hl : Rd w w.heap.size lv bs.length (flc bs)) (hg : Rd w w.heap.size gv gs.length (spc gs))
    (hlev : ∀ i, i < bs.length → finB (bs.getD i 0) = true) (hn : bs.length ≤ 100000) (hw : 1 ≤ wd ∧ wd ≤ 4096) :
    Calls Tryz.prog 32 #[.agg #[.string nm, .int .i64 st, lv, gv], .int .i64 wd, .float .f32 (sgF neg)] w (OwnsIn w.heap.size (wtsR bs gs wd neg bs.length) w) := by
  obtain ⟨i0, hi, hz0, hz1, hz2⟩ := info_parts intInfo
  have HII := hd (And.intro hi (And.intro hz0 (And.intro hz1 hz2)))
  have HL := hd hl
  have HG := hd hg
  have HF := hd hlev
  have HW := hd hw
  have HN := hd hn
  obtain ⟨A, c, rfl, hc1, hc2, -⟩ := hl
  obtain ⟨A2, c2, rfl, -⟩ := hg
  unfold maxLen at hc2
  have HQ := hd (blk_new w #[.string nm, .int .i64 st, .slice A bs.length c, .slice A2 gs.length c2] 25)
  have HB := hd ((Below.refl w.heap.size w).alloc (Nat.le_refl _) (Obj.cells #[.string nm, .int .i64 st, .slice A bs.length c, .slice A2 gs.length c2] 25))
  obtain ⟨sg, hsg⟩ : ∃ s, s = sgF neg := ⟨_, rfl⟩
  have HCW := hd (fun W h h' i hi => show Calls Tryz.prog 81 #[.agg #[.string nm, .int .i64 st, .slice A bs.length c, .slice A2 gs.length c2], .int .i64 wd, .int .i64 (i : Nat), .float .f32 sg] W fun e w' => e = .returned (.bool (watR bs gs wd neg i)) ∧ Below W.heap.size W w' from by rw [hsg]; exact water_any nm st _ _ bs gs wd neg i W h h' HF.out HN.out HW.out hi)
  rw [← hsg]
  clear hlev hw hn hsg hi hz0 hz1 hz2
  go_enter Tryz.func32, Tryz.ntmps32
  go_wp2_with fail
  go_loopw [7, 8] (fun o i wr => ∃ k : Nat, k ≤ bs.length ∧ i = .int .i64 k ∧ Hid (wr.ownsRow (w.heap.size + 1) 3 1 o (wtsR bs gs wd neg k).length ((wtsR bs gs wd neg k).map (Value.int .i64))) ∧ Hid (wr.heap[w.heap.size]? = some (.cells #[.string nm, .int .i64 st, .slice A bs.length c, .slice A2 gs.length c2] 25 (0, 0)) ∧ Below w.heap.size w wr)) (fun _ i _ => bs.length - (intOf i).toNat)
  case atStart => exact ⟨0, Nat.zero_le _, rfl, hd (World.ownsRow_nil _ _ _ _), hd ⟨HQ.out, HB.out⟩⟩
  case round =>
    obtain ⟨k, hk, rfl, HO, HI⟩ := hrel
    clear HQ HB
    obtain ⟨A5, c5, hv5, -⟩ := own_form HO.out
    subst hv5
    have q0 := blk_cell HI.out.1 0
    have q1 := blk_cell HI.out.1 1
    have q2 := blk_cell HI.out.1 2
    have q3 := blk_cell HI.out.1 3
    simp at q0 q1 q2 q3
    by_cases hlt : k < bs.length
    · have hki : (k : Int) < (bs.length : Int) := by omega
      have HS := hd (wtsR_succ bs gs wd neg k)
      have hwl := wtsR_len bs gs wd neg k
      have HPL := hd (show (wtsR bs gs wd neg k).length + 1 ≤ maxLen ∧ ((wtsR bs gs wd neg k).length + 1) * 8 ≤ 140737488355328 by have := HN.out; unfold maxLen; omega)
      clear hwl
      go_wp2_with fail
      refine (HCW.out _ ((HL.out.below HI.out.2 (Nat.le_refl _)).mono HI.out.2.size) ((HG.out.below HI.out.2 (Nat.le_refl _)).mono HI.out.2.size) k hlt).mono ?_
      rintro e w1 ⟨rfl, hb⟩
      have HO1 := hd (own_bel HO.out hb)
      have HI1 := hd (And.intro ((hb.block _ (blk_lt HI.out.1)).trans HI.out.1) (HI.out.2.trans (hb.mono HI.out.2.size)))
      have hlq := blk_lt HI1.out.1
      clear HO HI hb q0 q1 q2 q3
      cases hwt : watR bs gs wd neg k
      · have HS2 := hd (show wtsR bs gs wd neg (k + 1) = wtsR bs gs wd neg k from by rw [HS.out, hwt]; simp)
        have HWT := hd hwt
        clear HS hwt
        go_wp2_with fail
        go_roundw
        case rel => exact ⟨k + 1, by omega, by go_num, by rw [HS2.out]; exact HO1, HI1⟩
        case measure => simp [intOf]; omega
      · have HS2 := hd (show wtsR bs gs wd neg (k + 1) = wtsR bs gs wd neg k ++ [(k : Int)] from by rw [HS.out, hwt]; simp)
        have HWT := hd hwt
        clear HS hwt
        go_wp2_with (at_builtin; refine wpList_append_own _ rfl (.tmp 21) (.tmp 23) 30 rfl (w.heap.size + 1) 3 i0 (.int .i64 0) 1 8 Tryz.underlying30 HII.out.1 HII.out.2.1 HII.out.2.2.1 HII.out.2.2.2 rfl (by decide) _ (wtsR bs gs wd neg k).length _ rfl (HO1.out.alloc _) ⟨w1.heap.size, 0, none⟩ 1 1 [.int .i64 k] rfl rfl (new_one _ _ _) (by simp [Value.oneCell']) HPL.out.1 HPL.out.2 (by simp; omega) ?_)
        intro v7 w7 hown7 hg7 _
        have HO7 := hd (show w7.ownsRow (w.heap.size + 1) 3 1 v7 (wtsR bs gs wd neg (k + 1)).length ((wtsR bs gs wd neg (k + 1)).map (Value.int .i64)) from by
          rw [HS2.out, List.length_append, List.map_append]; exact hown7)
        have HI7 := hd (And.intro ((hg7.block w.heap.size (by simp; omega) (fun h => by have := (HO1.out.lt w.heap.size h.symm).1; omega)).trans ((Below.heap_alloc w1 _ w.heap.size (by omega)).trans HI1.out.1)) ((HI1.out.2.alloc HI1.out.2.size _).trans (gb_below hg7 (HI1.out.2.alloc HI1.out.2.size _).size (fun kk hk => by have := (HO1.out.lt kk hk).1; omega))))
        clear hown7 hg7 HO1 HI1
        go_wp2
        go_roundw
        case rel => exact ⟨k + 1, by omega, by go_num, HO7, HI7⟩
        case measure => simp [intOf]; omega
    · have hke : k = bs.length := by omega
      subst hke
      have HV := hd (And.intro (own_base (B' := w.heap.size) HO.out (by omega)) HI.out.2)
      clear HO HI
      go_wp2_with fail
      go_returns
      exact ⟨_, rfl, HV.out.1, HV.out.2⟩
end Go.Proofs.YtcekfcefdmejeaaGreatDoor
