/-
  The reference's Parse: every text of at most 300 bytes.
-/
import Derived.Test.YtnncmaegmlaabaaGreatDoorProg
import Derived.Test.YtnncmaegmlaabaaGreatDoorYL
import Derived.Test.YtnncmaegmlaabaaGreatDoorYA
import Derived.Test.YtnncmaegmlaabaaGreatDoorQ4
import Derived.Test.YtnncmaegmlaabaaGreatDoorS2
import Derived.Test.YtnncmaegmlaabaaGreatDoorEK
namespace Go.Proofs.YtnncmaegmlaabaaGreatDoor
open Go.RowKit
attribute [local go_sem] Oper.semAt_some

/-- What the reference's Parse holds: its boxes, its lists. -/
structure PIv (w : World) (O : Nat) (nm : ByteArray) (st : Int) (LV : Value) (ls : List Nat) (LS : List ByteArray) (LN TH NU : Value) (bs : List Bool) (ns : List Int) (W : World) : Prop where
  res : W.heap[w.heap.size]? = some (.cells #[.string ⟨#[]⟩, .int .i64 0, .slice none 0 0, .slice none 0 0] 25 (0, 0))
  out : W.heap[O]? = some (.cells #[.string nm, .int .i64 st, LV, .slice none 0 0] 25 (0, 0))
  low : w.heap.size < O
  lns : W.ownsRow w.heap.size 9 1 LN LS.length (stc1 LS)
  thr : W.ownsRow w.heap.size 4 1 TH bs.length (bs.map Value.bool)
  num : W.ownsRow w.heap.size 3 1 NU ns.length (ns.map (Value.int .i64))
  lev : W.ownsRow w.heap.size 65 1 LV ls.length (flc ls)
  bel : Below w.heap.size w W
section
variable {w : World} {O : Nat} {nm : ByteArray} {st : Int} {LV : Value} {ls : List Nat} {LS : List ByteArray} {LN TH NU : Value} {bs : List Bool} {ns : List Int} {W W' : World}
theorem PIv.below (h : PIv w O nm st LV ls LS LN TH NU bs ns W) (hb : Below W.heap.size W W') : PIv w O nm st LV ls LS LN TH NU bs ns W' :=
  ⟨(hb.block _ (blk_lt h.res)).trans h.res, (hb.block _ (blk_lt h.out)).trans h.out, h.low, own_belS h.lns hb, own_belS h.thr hb, own_belS h.num hb, own_belS h.lev hb, h.bel.trans (hb.mono h.bel.size)⟩
theorem PIv.head (h : PIv w O nm st LV ls LS LN TH NU bs ns W) (nm' : ByteArray) (st' : Int) : PIv w O nm' st' LV ls LS LN TH NU bs ns ((W.setCell ⟨O, 0, none⟩ (.string nm')).setCell ⟨O, 1, none⟩ (.int .i64 st')) := by
  have hl := h.low
  have hb := blk_set (blk_set h.out 0 (.string nm')) 1 (.int .i64 st')
  refine ⟨?_, by simpa using hb, h.low, own_farS (own_farS h.lns (own_boxS h.lns h.out (by decide))) (own_boxS h.lns h.out (by decide)), own_farS (own_farS h.thr (own_boxS h.thr h.out (by decide))) (own_boxS h.thr h.out (by decide)), own_farS (own_farS h.num (own_boxS h.num h.out (by decide))) (own_boxS h.num h.out (by decide)), own_farS (own_farS h.lev (own_boxS h.lev h.out (by decide))) (own_boxS h.lev h.out (by decide)), (h.bel.setCell (p := ⟨O, 0, none⟩) (by show w.heap.size ≤ O; omega) _).setCell (p := ⟨O, 1, none⟩) (by show w.heap.size ≤ O; omega) _⟩
  rw [Below.heap_setCell _ ⟨O, 1, none⟩ _ _ (by show w.heap.size ≠ O; omega), Below.heap_setCell _ ⟨O, 0, none⟩ _ _ (by show w.heap.size ≠ O; omega)]
  exact h.res
theorem PIv.addT (h : PIv w O nm st LV ls LS LN TH NU bs ns W) {v' : Value} {x : Bool} (hown : W'.ownsRow w.heap.size 4 1 v' (bs.length + 1) (bs.map Value.bool ++ [.bool x])) (hg : W.grownBy W' TH.ownBlock) : PIv w O nm st LV ls LS LN v' NU (bs ++ [x]) ns W' :=
  ⟨(hg.block _ (blk_lt h.res) (blk_not_row h.res (by decide) h.thr)).trans h.res, (hg.block _ (blk_lt h.out) (blk_not_row h.out (by decide) h.thr)).trans h.out, h.low, h.lns.kept hg (own_typesS h.lns h.thr (by decide)), by rw [List.length_append, List.map_append]; exact hown, h.num.kept hg (own_typesS h.num h.thr (by decide)), h.lev.kept hg (own_typesS h.lev h.thr (by decide)), h.bel.grown hg h.bel.size (fun k hk => (h.thr.lt k hk).1)⟩
theorem PIv.addN (h : PIv w O nm st LV ls LS LN TH NU bs ns W) {v' : Value} {x : Int} (hown : W'.ownsRow w.heap.size 3 1 v' (ns.length + 1) (ns.map (Value.int .i64) ++ [.int .i64 x])) (hg : W.grownBy W' NU.ownBlock) : PIv w O nm st LV ls LS LN TH v' bs (ns ++ [x]) W' :=
  ⟨(hg.block _ (blk_lt h.res) (blk_not_row h.res (by decide) h.num)).trans h.res, (hg.block _ (blk_lt h.out) (blk_not_row h.out (by decide) h.num)).trans h.out, h.low, h.lns.kept hg (own_typesS h.lns h.num (by decide)), h.thr.kept hg (own_typesS h.thr h.num (by decide)), by rw [List.length_append, List.map_append]; exact hown, h.lev.kept hg (own_typesS h.lev h.num (by decide)), h.bel.grown hg h.bel.size (fun k hk => (h.num.lt k hk).1)⟩
theorem PIv.addL (h : PIv w O nm st LV ls LS LN TH NU bs ns W) {v' : Value} {x : Nat} (hown : W'.ownsRow w.heap.size 65 1 v' (ls.length + 1) (flc ls ++ [.float .f32 x])) (hg : W.grownBy W' LV.ownBlock) : PIv w O nm st v' (ls ++ [x]) LS LN TH NU bs ns (W'.setCell ⟨O, 2, none⟩ v') := by
  have hl := h.low
  have bO := (hg.block O (blk_lt h.out) (blk_not_row h.out (by decide) h.lev)).trans h.out
  have bR := (hg.block _ (blk_lt h.res) (blk_not_row h.res (by decide) h.lev)).trans h.res
  have k1 := h.lns.kept hg (own_typesS h.lns h.lev (by decide))
  have k2 := h.thr.kept hg (own_typesS h.thr h.lev (by decide))
  have k3 := h.num.kept hg (own_typesS h.num h.lev (by decide))
  refine ⟨(Below.heap_setCell W' ⟨O, 2, none⟩ v' _ (by show w.heap.size ≠ O; omega)).trans bR, by simpa using blk_set bO 2 v', h.low, own_farS k1 (own_boxS k1 bO (by decide)), own_farS k2 (own_boxS k2 bO (by decide)), own_farS k3 (own_boxS k3 bO (by decide)), ?_, (h.bel.grown hg h.bel.size (fun j hj => (h.lev.lt j hj).1)).setCell (p := ⟨O, 2, none⟩) (by show w.heap.size ≤ O; omega) v'⟩
  rw [show flc (ls ++ [x]) = flc ls ++ [.float .f32 x] by simp [flc], List.length_append]
  exact own_farS hown (own_boxS hown bO (by decide))
end
/-- The name and the start so far, and the lines of levels that were read. -/
def nmK (s : ByteArray) (k : Nat) : ByteArray := if k = 0 then ⟨#[]⟩ else tNm s
def stK (s : ByteArray) (k : Nat) : Int := if k = 0 then 0 else tSt s
def tkK (s : ByteArray) (k : Nat) : List ByteArray := (tT s).take (k - 1)
theorem tk_more (s : ByteArray) (k : Nat) (h1 : 1 ≤ k) (h2 : k - 1 < (tT s).length) : tkK s (k + 1) = tkK s k ++ [(tT s).getD (k - 1) ⟨#[]⟩] := by
  unfold tkK
  rw [show k + 1 - 1 = k - 1 + 1 by omega, List.take_add_one, List.getElem?_eq_getElem h2]
  simp [h2]
theorem tk_all (s : ByteArray) (k : Nat) (h : (tT s).length ≤ k - 1) : tkK s k = tT s := List.take_of_length_le h
theorem tL_tT (s : ByteArray) (h : (tL s).length ≠ 0) : (tL s).length = (tT s).length + 1 ∧ tL s = tHd s :: tT s := by
  unfold tT tHd
  cases hl : tL s with
  | nil => rw [hl] at h; simp at h
  | cons a l => simp
structure QK (s : ByteArray) (w : World) (O : Nat) (LN : Value) (k : Nat) (th nu : Value) (W : World) : Prop where
  inv : PIv w O (nmK s k) (stK s k) (.slice none 0 0) [] (spl s 10) LN th nu (msT (tkK s k)) (nsT (tkK s k)) W
  hed : 1 ≤ k → hedB s = true
  oks : ∀ i, i < k - 1 → i < (tT s).length → lvOk ((tT s).getD i ⟨#[]⟩) = true
  lst : k = (tL s).length + 1 → (tE s).size = 0
theorem intInfoM : (Tryz.prog.info? 3).map (fun i => (i.zero, i.size, i.bytes)) = some (some (.int .i64 0), 1, 8) := by kernel_rfl
theorem spl_at0 (s : ByteArray) (k : Nat) (h : k < (tL s).length) : (stc1 (spl s 10))[k]? = some (.string ((tL s).getD k ⟨#[]⟩)) := by
  rw [spl_is]; unfold stc1
  rw [List.map_append, List.getElem?_append_left (by simpa using h)]
  simp [h]
theorem spl_at1 (s : ByteArray) : (stc1 (spl s 10))[(tL s).length]? = some (.string (tE s)) := by
  rw [spl_is]; unfold stc1
  rw [List.map_append, List.getElem?_append_right (by simp)]
  simp
theorem msT_more (l : List ByteArray) (y : ByteArray) : msT (l ++ [y]) = msT l ++ [(sgnB y).isSome] := by simp [msT]
theorem nsT_more (l : List ByteArray) (y : ByteArray) : nsT (l ++ [y]) = nsT l ++ [(sgnB y).getD 0] := by simp [nsT]

set_option maxRecDepth 1000000 in
set_option maxHeartbeats 16000000 in
theorem refParse_any (s : ByteArray) (w : World) (hs : s.size ≤ 300) :
    Calls Tryz.prog 13 #[.string s] w (Txtd s w) := by
  obtain ⟨j0, hj, hy0, hy1, hy2⟩ := info_parts boolInfo
  obtain ⟨i0, hi, hz0, hz1, hz2⟩ := info_parts intInfoM
  obtain ⟨f0, hf, hx0, hx1, hx2⟩ := info_parts floatInfo
  have HJ := hd (And.intro hj (And.intro hy0 (And.intro hy1 hy2)))
  have HIN := hd (And.intro hi (And.intro hz0 (And.intro hz1 hz2)))
  have HFL := hd (And.intro hf (And.intro hx0 (And.intro hx1 hx2)))
  clear hj hy0 hy1 hy2 hi hz0 hz1 hz2 hf hx0 hx1 hx2
  have hsl : ¬ (1000000 : Int) < (s.size : Int) := by omega
  have HSZ := hd hs
  have hsl2 : s.data.toList.length = s.size := by simp
  by_cases h0 : s.size = 0
  · have HZ := hd (txt_nil h0)
    have e0 : s.toList = [] := by rw [ByteArray.toList_eq]; exact List.eq_nil_of_length_eq_zero (by omega)
    have e0' : s.toList.isEmpty = true := by rw [e0]; rfl
    have e1 : (s.toList == []) = true := by rw [e0]; rfl
    obtain ⟨W0, hW0⟩ : ∃ W0, W0 = w.alloc (.cells #[.string ⟨#[]⟩, .int .i64 0, .slice none 0 0, .slice none 0 0] 25) := ⟨_, rfl⟩
    have HR := hd (show W0.heap[w.heap.size]? = some (.cells #[.string ⟨#[]⟩, .int .i64 0, .slice none 0 0, .slice none 0 0] 25 (0, 0)) by rw [hW0]; exact blk_new _ _ _)
    have HB := hd (show Below w.heap.size w W0 by rw [hW0]; exact (Below.refl _ w).alloc (Nat.le_refl _) _)
    clear hsl2 hs h0
    go_enter Tryz.func13, Tryz.ntmps13
    have r0 := blk_cell HR.out 0
    have r1 := blk_cell HR.out 1
    have r2 := blk_cell HR.out 2
    have r3 := blk_cell HR.out 3
    have y0 := blk_frozen HR.out 0
    have y1 := blk_frozen HR.out 1
    have y2 := blk_frozen HR.out 2
    have y3 := blk_frozen HR.out 3
    simp at r0 r1 r2 r3
    go_wp2_with fail
    rw [← hW0]
    clear hW0
    have z0 := r0
    have z1 := r1
    have z2 := r2
    have z3 := r3
    clear r0 y0 r1 y1 r2 y2 r3 y3
    exact bodyPost_ret (v := .tuple #[.agg #[.string ⟨#[]⟩, .int .i64 0, .slice none 0 0, .slice none 0 0], .int .i64 0, .int .i64 26]) (by simp [results, Tryz.results13, go_sem, z0, z1, z2, z3]) rfl (txtd_bad HB.out (by decide) HZ.out.1 (by rw [HZ.out.2]; rfl))
  · have e0 : s.toList.isEmpty = false := by
      rw [ByteArray.toList_eq]
      cases hl : s.data.toList with
      | nil => rw [hl] at hsl2; simp at hsl2; omega
      | cons => rfl
    have e1 : (s.toList == []) = false := by
      rw [beq_eq_false_iff_ne]; intro e; rw [e] at e0; cases e0
    have HSP := hd (fun W => refSplit_any s 10 W (by omega))
    have HNZ := hd h0
    have hlT := tL_len s
    have hlE := tE_size s
    have HLL := hd (show (spl s 10).length = (tL s).length + 1 by rw [spl_is]; simp)
    obtain ⟨W0, hW0⟩ : ∃ W0, W0 = (w.alloc (.cells #[.string ⟨#[]⟩, .int .i64 0, .slice none 0 0, .slice none 0 0] 25)).alloc (.cells #[.string ⟨#[]⟩, .int .i64 0, .slice none 0 0, .slice none 0 0] 25) := ⟨_, rfl⟩
    have hR0 : W0.heap[w.heap.size]? = some (.cells #[.string ⟨#[]⟩, .int .i64 0, .slice none 0 0, .slice none 0 0] 25 (0, 0)) := by rw [hW0]; exact (Below.heap_alloc _ _ _ (by simp)).trans (blk_new _ _ _)
    have hO0 : W0.heap[w.heap.size + 1]? = some (.cells #[.string ⟨#[]⟩, .int .i64 0, .slice none 0 0, .slice none 0 0] 25 (0, 0)) := by
      have h1 := blk_new (w.alloc (Obj.cells #[.string ⟨#[]⟩, .int .i64 0, .slice none 0 0, .slice none 0 0] 25)) #[.string ⟨#[]⟩, .int .i64 0, .slice none 0 0, .slice none 0 0] 25
      simp only [World.size_alloc] at h1
      rw [hW0]; exact h1
    have hB0 : Below w.heap.size w W0 := by rw [hW0]; exact ((Below.refl _ w).alloc (Nat.le_refl _) _).alloc (by simp) _
    have HO0 := hd (And.intro hR0 (And.intro hO0 hB0))
    clear hR0 hO0 hB0 hsl2 hs h0
    go_enter Tryz.func13, Tryz.ntmps13
    go_wp2_with fail
    rw [← hW0]
    clear hW0 e0 e1 hsl
    refine (HSP.out _).mono ?_
    rintro e w1 ⟨LN, rfl, hown, hb1⟩
    have hsz0 := HO0.out.2.2.size
    obtain ⟨A8, c8, rfl, hA8⟩ := own_form hown
    obtain ⟨g8, rfl⟩ := hA8 (by rw [HLL.out]; omega)
    have HI0 := hd (show QK s w (w.heap.size + 1) (.slice (some ⟨g8, 0, none⟩) (spl s 10).length c8) 0 (.slice none 0 0) (.slice none 0 0) w1 from
      ⟨⟨(hb1.block _ (blk_lt HO0.out.1)).trans HO0.out.1, (hb1.block _ (blk_lt HO0.out.2.1)).trans HO0.out.2.1, Nat.lt_succ_self _, own_base hown hsz0, World.ownsRow_nil _ _ _ _, World.ownsRow_nil _ _ _ _, World.ownsRow_nil _ _ _ _, HO0.out.2.2.trans (hb1.mono hsz0)⟩, fun h => absurd h (by omega), fun i hi => absurd hi (by omega), fun h => absurd h (by omega)⟩)
    clear hown hb1 HO0 hsz0 HSP
    generalize w.heap.size + 1 = O at *
    obtain ⟨N, hN⟩ : ∃ N, N = (spl s 10).length := ⟨_, rfl⟩
    rw [← hN] at HI0 HLL ⊢
    have HNE := hd hN
    obtain ⟨n, hn⟩ : ∃ n, n = (tL s).length := ⟨_, rfl⟩
    have HNN := hd hn
    clear hN hn
    go_wp2
    go_loopw [6, 7, 9] (fun th' nu' i wr => ∃ (k : Nat) (th nu : Value), k ≤ (tL s).length + 1 ∧ th = th' ∧ nu = nu' ∧ i = .int .i64 k ∧ Hid (QK s w O (.slice (some ⟨g8, 0, none⟩) N c8) k th nu wr)) (fun _ _ i _ => (tL s).length + 1 - (intOf i).toNat)
    case atStart => exact ⟨0, _, _, Nat.zero_le _, rfl, rfl, rfl, HI0⟩
    case round =>
      obtain ⟨k, th, nu, hk, rfl, rfl, rfl, HI⟩ := hrel
      have hNI : (N : Int) - 1 = (n : Int) := by have := HLL.out; have := HNN.out; omega
      have hNb : N ≤ 1000 := by have := HLL.out; have := HSZ.out; omega
      have hnb : n ≤ 1000 := by have := HNN.out; have := HSZ.out; omega
      by_cases hin : k < N
      · have hki : (k : Int) < (N : Int) := by omega
        have hcl := HI.out.inv.lns
        rw [← HNE.out] at hcl
        replace hcl := hcl.cellAt k (by omega)
        by_cases hla : k = (tL s).length
        · have hkl : ((k : Int) == (n : Int)) = true := by rw [hla, HNN.out]; simp
          rw [hla, spl_at1 s, ← hla] at hcl
          have HLA := hd hla
          clear hla
          have hEl : (tE s).data.toList.length = (tE s).size := by simp
          by_cases hE0 : (tE s).size = 0
          · have e0 : (tE s).toList = [] := by rw [ByteArray.toList_eq]; exact List.eq_nil_of_length_eq_zero (by omega)
            have e0' : (tE s).toList.isEmpty = true := by rw [e0]; rfl
            have e1 : ((tE s).toList == []) = true := by rw [e0]; rfl
            have HI2 := hd (show 1 ≤ k → QK s w O (.slice (some ⟨g8, 0, none⟩) N c8) (k + 1) th nu wr from fun hk1 => by
              have h := HI.out
              have hla := HLA.out
              obtain ⟨t1, t2⟩ := tL_tT s (by omega)
              have ea : tkK s (k + 1) = tkK s k := by rw [tk_all s k (by omega), tk_all s (k + 1) (by omega)]
              have eb : nmK s (k + 1) = nmK s k := by unfold nmK; rw [if_neg (by omega), if_neg (by omega)]
              have ec : stK s (k + 1) = stK s k := by unfold stK; rw [if_neg (by omega), if_neg (by omega)]
              exact ⟨by rw [ea, eb, ec]; exact h.inv, fun _ => h.hed hk1, fun i hi hl => h.oks i (by omega) hl, fun _ => hE0⟩)
            have hk1 : 1 ≤ k := by
              rcases Nat.eq_zero_or_pos k with h | h
              · exfalso
                have hla := HLA.out
                have h1 : tL s = [] := List.eq_nil_of_length_eq_zero (by omega)
                have h2 := prt_nil s 10 s.size h1
                have h3 := hE0
                unfold tE at h3
                rw [h2] at h3
                simp at h3
                exact HNZ.out (by rw [h3]; rfl)
              · exact h
            have HI3 := hd (HI2.out hk1)
            clear HI2 HI hEl hE0
            generalize tE s = x at *
            go_wp2
            go_roundw
            case rel => exact ⟨k + 1, _, _, by have := HLA.out; omega, rfl, rfl, by go_num, HI3⟩
            case measure => have := HLA.out; simp [intOf]; omega
          · have e0 : (tE s).toList.isEmpty = false := by
              rw [ByteArray.toList_eq]
              cases hl : (tE s).data.toList with
              | nil => rw [hl] at hEl; simp at hEl; omega
              | cons => rfl
            have e1 : ((tE s).toList == []) = false := by
              rw [beq_eq_false_iff_ne]; intro e; rw [e] at e0; cases e0
            have HTX := hd (show txtE s = 26 ∧ txtAt s = k from by
              have hla := HLA.out
              rcases Nat.eq_zero_or_pos k with h | h
              · have hh : hedB s = false := by unfold hedB; rw [show (tL s).length = 0 by omega]; rfl
                obtain ⟨s1, s2⟩ := txtAt_no hh
                exact ⟨txtE_syn s1, by omega⟩
              · obtain ⟨t1, t2⟩ := tL_tT s (by omega)
                obtain ⟨s1, s2⟩ := txtAt_bad (HI.out.hed h) (.inr hE0)
                have := fbd_all (T := tT s) (fun i hi => HI.out.oks i (by omega) hi)
                exact ⟨txtE_syn s1, by omega⟩)
            have HV := hd HI.out.inv
            clear hEl hE0 HI
            generalize tE s = x at *
            have HRz := hd HV.out.res
            have HBz := hd HV.out.bel
            have r0 := blk_cell HRz.out 0
            have r1 := blk_cell HRz.out 1
            have r2 := blk_cell HRz.out 2
            have r3 := blk_cell HRz.out 3
            have y0 := blk_frozen HRz.out 0
            have y1 := blk_frozen HRz.out 1
            have y2 := blk_frozen HRz.out 2
            have y3 := blk_frozen HRz.out 3
            simp at r0 r1 r2 r3
            go_wp2_with fail
            clear r0 y0 r1 y1 r2 y2 r3 y3
            have hq := set4S_blk HRz.out (.string ⟨#[]⟩) (.int .i64 0) (.slice none 0 0) (.slice none 0 0)
            have z0 := blk_cell hq 0
            have z1 := blk_cell hq 1
            have z2 := blk_cell hq 2
            have z3 := blk_cell hq 3
            simp at z0 z1 z2 z3
            have HB5 := hd (set4S_below HBz.out (Nat.le_refl _) (.string ⟨#[]⟩) (.int .i64 0) (.slice none 0 0) (.slice none 0 0))
            change bodyPost _ _ _ _ _ (set4S wr w.heap.size (.string ⟨#[]⟩) (.int .i64 0) (.slice none 0 0) (.slice none 0 0))
            generalize set4S wr w.heap.size (.string ⟨#[]⟩) (.int .i64 0) (.slice none 0 0) (.slice none 0 0) = W6 at *
            clear hq
            exact bodyPost_ret (v := .tuple #[.agg #[.string ⟨#[]⟩, .int .i64 0, .slice none 0 0, .slice none 0 0], .int .i64 (k : Int), .int .i64 26]) (by simp [results, Tryz.results13, go_sem, z0, z1, z2, z3]) rfl (txtd_bad HB5.out (by decide) HTX.out.1 (by rw [HTX.out.2]))
        · have hkl : ((k : Int) == (n : Int)) = false := by rw [beq_eq_false_iff_ne]; have := HNN.out; omega
          have hlt : k < (tL s).length := by have := HLL.out; omega
          clear hla
          rw [spl_at0 s k hlt] at hcl
          obtain ⟨t1, t2⟩ := tL_tT s (by omega)
          by_cases hk0 : k = 0
          · subst hk0
            have hkl0 : ((0 : Int) == (n : Int)) = false := by rw [beq_eq_false_iff_ne]; have := HNN.out; omega
            have hki0 : (0 : Int) < (N : Int) := by omega
            rw [show (tL s).getD 0 ⟨#[]⟩ = tHd s by rw [t2]; rfl] at hcl
            have HHB := hd (show hedB s = hdOk (tHd s) by unfold hedB; rw [decide_eq_true (by omega : (tL s).length ≠ 0), Bool.true_and])
            have HS2 := hd (fun W => refSplit_any (tHd s) 32 W (by have h : tHd s ∈ tL s := (by rw [t2]; exact List.mem_cons_self ..); have := tL_mem s _ h; have := HSZ.out; omega))
            have HV := hd HI.out.inv
            have HX0 := hd (show hedB s = false → txtE s = 26 ∧ txtAt s = 0 from fun h => ⟨txtE_syn (txtAt_no h).1, (txtAt_no h).2⟩)
            have HX1 := hd (show hedB s = true → QK s w O (.slice (some ⟨g8, 0, none⟩) N c8) 1 th nu wr → True from fun _ _ => trivial)
            clear HX1 HI
            obtain ⟨x, hx⟩ : ∃ x, x = tHd s := ⟨_, rfl⟩
            rw [← hx] at hcl HHB HS2
            have HXX := hd hx
            have HNM := hd (show tNm s = (spl x 32).getD 1 ⟨#[]⟩ by unfold tNm; rw [hx])
            have HST := hd (show tSt s = (((numB ((spl x 32).getD 2 ⟨#[]⟩)).getD 0 : Nat) : Int) by unfold tSt; rw [hx])
            have HDK := hd (show hdOk x = _ from rfl)
            conv at HDK => arg 1; rhs; unfold hdOk
            have HD3 := hd (fun h : hdOk x = true => hd_three h)
            have HPM := hd (fun y (hy : y ∈ spl x 32) => show y.size ≤ 1000000 from by
              have h1 := spl_mem x 32 y hy
              have h : tHd s ∈ tL s := (by rw [t2]; exact List.mem_cons_self ..)
              have h2 := tL_mem s _ h
              have := HSZ.out
              rw [hx] at h1
              omega)
            clear hx
            go_wp2_with fail
            refine (HS2.out _).mono ?_
            rintro e w2 ⟨LW, rfl, hown2, hb2⟩
            have HV2 := hd (HV.out.below hb2)
            have HO2 := hd (own_base hown2 (Nat.le_refl _))
            have hlw : (spl x 32).length = (prt x 32 x.size).length + 1 := spl_cnt x 32
            obtain ⟨A9, c9, rfl, hA9⟩ := own_form hown2
            obtain ⟨g9, rfl⟩ := hA9 (by omega)
            clear hA9 hb2 HV hown2 HS2
            by_cases h3 : (spl x 32).length = 3
            · obtain ⟨x0, x1, x2, hsx⟩ : ∃ a b c, spl x 32 = [a, b, c] := by
                rcases hq : spl x 32 with _ | ⟨a, _ | ⟨b, _ | ⟨c, _ | ⟨d, l⟩⟩⟩⟩
                · rw [hq] at h3; cases h3
                · rw [hq] at h3; cases h3
                · rw [hq] at h3; cases h3
                · exact ⟨a, b, c, rfl⟩
                · rw [hq] at h3; simp at h3
              have HC := hd (show w2.cell? ⟨g9, 0, none⟩ = some (.string x0) ∧ w2.cell? ⟨g9, 1, none⟩ = some (.string x1) ∧ w2.cell? ⟨g9, 2, none⟩ = some (.string x2) from by
                have a0 := HO2.out.cellAt 0 (by omega)
                have a1 := HO2.out.cellAt 1 (by omega)
                have a2 := HO2.out.cellAt 2 (by omega)
                rw [hsx] at a0 a1 a2
                exact ⟨a0, a1, a2⟩)
              have hz2 := HPM.out x2 (by rw [hsx]; simp)
              have HN2 := hd (fun W => refNumber_any x2 W hz2)
              have HDK2 := hd (show hedB s = ((x0.toList == [103, 97, 117, 103, 101]) && !(x1.toList == []) && (numB x2).isSome) by rw [HHB.out, HDK.out, hsx]; simp)
              have HNM2 := hd (show tNm s = x1 by rw [HNM.out, hsx]; rfl)
              have HST2 := hd (show tSt s = (((numB x2).getD 0 : Nat) : Int) by rw [HST.out, hsx]; rfl)
              have HN3 := hd h3
              obtain ⟨n9, hn9⟩ : ∃ n, n = (spl x 32).length := ⟨_, rfl⟩
              rw [← hn9] at h3 hlw ⊢
              have hn3 : n9 = 3 := h3
              subst hn3
              obtain ⟨q0, q1, q2⟩ := HC.out
              have hE1 : x1.data.toList.length = x1.size := by simp
              have HIS := hd (show x1.toList.isEmpty = (x1.toList == []) by cases x1.toList <;> rfl)
              clear HDK HD3 HPM hz2 hlw hn9 HO2 HNM HST HHB HXX hE1 HC hsx h3
              obtain ⟨b0, hb0⟩ : ∃ b, b = (x0.toList == [103, 97, 117, 103, 101]) := ⟨_, rfl⟩
              obtain ⟨b1, hb1⟩ : ∃ b, b = (x1.toList == []) := ⟨_, rfl⟩
              have hb1' : x1.toList.isEmpty = b1 := by rw [HIS.out, hb1]
              have hb0' := hb0.symm
              have hb1'' := hb1.symm
              rw [← hb0, ← hb1] at HDK2
              clear hb0 hb1 HIS
              cases b0
              · have HTX := hd (HX0.out (by rw [HDK2.out]; rfl))
                have HRz := hd HV2.out.res
                have HBz := hd HV2.out.bel
                have r0 := blk_cell HRz.out 0
                have r1 := blk_cell HRz.out 1
                have r2 := blk_cell HRz.out 2
                have r3 := blk_cell HRz.out 3
                have y0 := blk_frozen HRz.out 0
                have y1 := blk_frozen HRz.out 1
                have y2 := blk_frozen HRz.out 2
                have y3 := blk_frozen HRz.out 3
                simp at r0 r1 r2 r3
                go_wp2_with fail
                clear r0 y0 r1 y1 r2 y2 r3 y3
                have hq := set4S_blk HRz.out (.string ⟨#[]⟩) (.int .i64 0) (.slice none 0 0) (.slice none 0 0)
                have z0 := blk_cell hq 0
                have z1 := blk_cell hq 1
                have z2 := blk_cell hq 2
                have z3 := blk_cell hq 3
                simp at z0 z1 z2 z3
                have HB5 := hd (set4S_below HBz.out (Nat.le_refl _) (.string ⟨#[]⟩) (.int .i64 0) (.slice none 0 0) (.slice none 0 0))
                change bodyPost _ _ _ _ _ (set4S w2 w.heap.size (.string ⟨#[]⟩) (.int .i64 0) (.slice none 0 0) (.slice none 0 0))
                generalize set4S w2 w.heap.size (.string ⟨#[]⟩) (.int .i64 0) (.slice none 0 0) (.slice none 0 0) = W6 at *
                clear hq
                exact bodyPost_ret (v := .tuple #[.agg #[.string ⟨#[]⟩, .int .i64 0, .slice none 0 0, .slice none 0 0], .int .i64 0, .int .i64 26]) (by simp [results, Tryz.results13, go_sem, z0, z1, z2, z3]) rfl (txtd_bad HB5.out (by decide) HTX.out.1 (by rw [HTX.out.2]; rfl))
              · cases b1
                · cases hnb : numB x2 with
                  | none =>
                    rw [hnb] at HN2 HDK2
                    have HTX := hd (HX0.out (by rw [HDK2.out]; rfl))
                    clear hnb
                    go_wp2_with fail
                    refine (HN2.out _).mono ?_
                    rintro e w3 ⟨rfl, rfl⟩
                    have HRz := hd HV2.out.res
                    have HBz := hd HV2.out.bel
                    have r0 := blk_cell HRz.out 0
                    have r1 := blk_cell HRz.out 1
                    have r2 := blk_cell HRz.out 2
                    have r3 := blk_cell HRz.out 3
                    have y0 := blk_frozen HRz.out 0
                    have y1 := blk_frozen HRz.out 1
                    have y2 := blk_frozen HRz.out 2
                    have y3 := blk_frozen HRz.out 3
                    simp at r0 r1 r2 r3
                    go_wp2_with fail
                    clear r0 y0 r1 y1 r2 y2 r3 y3
                    have hq := set4S_blk HRz.out (.string ⟨#[]⟩) (.int .i64 0) (.slice none 0 0) (.slice none 0 0)
                    have z0 := blk_cell hq 0
                    have z1 := blk_cell hq 1
                    have z2 := blk_cell hq 2
                    have z3 := blk_cell hq 3
                    simp at z0 z1 z2 z3
                    have HB5 := hd (set4S_below HBz.out (Nat.le_refl _) (.string ⟨#[]⟩) (.int .i64 0) (.slice none 0 0) (.slice none 0 0))
                    change bodyPost _ _ _ _ _ (set4S w2 w.heap.size (.string ⟨#[]⟩) (.int .i64 0) (.slice none 0 0) (.slice none 0 0))
                    generalize set4S w2 w.heap.size (.string ⟨#[]⟩) (.int .i64 0) (.slice none 0 0) (.slice none 0 0) = W6 at *
                    clear hq
                    exact bodyPost_ret (v := .tuple #[.agg #[.string ⟨#[]⟩, .int .i64 0, .slice none 0 0, .slice none 0 0], .int .i64 0, .int .i64 26]) (by simp [results, Tryz.results13, go_sem, z0, z1, z2, z3]) rfl (txtd_bad HB5.out (by decide) HTX.out.1 (by rw [HTX.out.2]; rfl))
                  | some v =>
                    rw [hnb] at HN2 HDK2 HST2
                    have HHD := hd (show hedB s = true by rw [HDK2.out]; rfl)
                    have HI3 := hd (show QK s w O (.slice (some ⟨g8, 0, none⟩) N c8) 1 th nu ((w2.setCell ⟨O, 0, none⟩ (.string x1)).setCell ⟨O, 1, none⟩ (.int .i64 ((v : Nat) : Int))) from
                      ⟨by
                        have h := HV2.out.head x1 ((v : Nat) : Int)
                        have ea : nmK s 1 = x1 := by unfold nmK; rw [if_neg (by omega), HNM2.out]
                        have eb : stK s 1 = ((v : Nat) : Int) := by unfold stK; rw [if_neg (by omega), HST2.out]; rfl
                        have ec : tkK s 1 = tkK s 0 := rfl
                        rw [ea, eb, ec]; exact h, fun _ => HHD.out, fun i hi => absurd hi (by omega), fun h => absurd h (by omega)⟩)
                    have HOO := hd HV2.out.out
                    clear hnb
                    have ro0 := blk_cell HOO.out 0
                    have ro1 := blk_cell HOO.out 1
                    have ro2 := blk_cell HOO.out 2
                    have ro3 := blk_cell HOO.out 3
                    have yo0 := blk_frozen HOO.out 0
                    have yo1 := blk_frozen HOO.out 1
                    have yo2 := blk_frozen HOO.out 2
                    have yo3 := blk_frozen HOO.out 3
                    simp at ro0 ro1 ro2 ro3
                    clear HX0 HDK2 HNM2 HST2 HHD
                    go_wp2_with fail
                    refine (HN2.out _).mono ?_
                    rintro e w3 ⟨rfl, rfl⟩
                    go_wp2
                    go_roundw
                    case rel => exact ⟨1, _, _, by omega, rfl, rfl, by go_num, HI3⟩
                    case measure => first | (simp [intOf]; done) | (simp [intOf]; omega)
                · have HTX := hd (HX0.out (by rw [HDK2.out]; rfl))
                  have HRz := hd HV2.out.res
                  have HBz := hd HV2.out.bel
                  have r0 := blk_cell HRz.out 0
                  have r1 := blk_cell HRz.out 1
                  have r2 := blk_cell HRz.out 2
                  have r3 := blk_cell HRz.out 3
                  have y0 := blk_frozen HRz.out 0
                  have y1 := blk_frozen HRz.out 1
                  have y2 := blk_frozen HRz.out 2
                  have y3 := blk_frozen HRz.out 3
                  simp at r0 r1 r2 r3
                  go_wp2_with fail
                  clear r0 y0 r1 y1 r2 y2 r3 y3
                  have hq := set4S_blk HRz.out (.string ⟨#[]⟩) (.int .i64 0) (.slice none 0 0) (.slice none 0 0)
                  have z0 := blk_cell hq 0
                  have z1 := blk_cell hq 1
                  have z2 := blk_cell hq 2
                  have z3 := blk_cell hq 3
                  simp at z0 z1 z2 z3
                  have HB5 := hd (set4S_below HBz.out (Nat.le_refl _) (.string ⟨#[]⟩) (.int .i64 0) (.slice none 0 0) (.slice none 0 0))
                  change bodyPost _ _ _ _ _ (set4S w2 w.heap.size (.string ⟨#[]⟩) (.int .i64 0) (.slice none 0 0) (.slice none 0 0))
                  generalize set4S w2 w.heap.size (.string ⟨#[]⟩) (.int .i64 0) (.slice none 0 0) (.slice none 0 0) = W6 at *
                  clear hq
                  exact bodyPost_ret (v := .tuple #[.agg #[.string ⟨#[]⟩, .int .i64 0, .slice none 0 0, .slice none 0 0], .int .i64 0, .int .i64 26]) (by simp [results, Tryz.results13, go_sem, z0, z1, z2, z3]) rfl (txtd_bad HB5.out (by decide) HTX.out.1 (by rw [HTX.out.2]; rfl))
            · have hn3 : ¬ (((spl x 32).length : Nat) : Int) = 3 := by omega
              have HTX := hd (HX0.out (by
                rw [HHB.out]
                cases hq : hdOk x
                · rfl
                · exact absurd (HD3.out hq) h3))
              have hn3' : ((((spl x 32).length : Nat) : Int) == 3) = false := by rw [beq_eq_false_iff_ne]; exact hn3
              clear HDK HD3 HPM HHB HXX HNM HST h3 HO2 hlw
              generalize (spl x 32).length = n9 at *
              have HRz := hd HV2.out.res
              have HBz := hd HV2.out.bel
              have r0 := blk_cell HRz.out 0
              have r1 := blk_cell HRz.out 1
              have r2 := blk_cell HRz.out 2
              have r3 := blk_cell HRz.out 3
              have y0 := blk_frozen HRz.out 0
              have y1 := blk_frozen HRz.out 1
              have y2 := blk_frozen HRz.out 2
              have y3 := blk_frozen HRz.out 3
              simp at r0 r1 r2 r3
              go_wp2_with fail
              clear r0 y0 r1 y1 r2 y2 r3 y3
              have hq := set4S_blk HRz.out (.string ⟨#[]⟩) (.int .i64 0) (.slice none 0 0) (.slice none 0 0)
              have z0 := blk_cell hq 0
              have z1 := blk_cell hq 1
              have z2 := blk_cell hq 2
              have z3 := blk_cell hq 3
              simp at z0 z1 z2 z3
              have HB5 := hd (set4S_below HBz.out (Nat.le_refl _) (.string ⟨#[]⟩) (.int .i64 0) (.slice none 0 0) (.slice none 0 0))
              change bodyPost _ _ _ _ _ (set4S w2 w.heap.size (.string ⟨#[]⟩) (.int .i64 0) (.slice none 0 0) (.slice none 0 0))
              generalize set4S w2 w.heap.size (.string ⟨#[]⟩) (.int .i64 0) (.slice none 0 0) (.slice none 0 0) = W6 at *
              clear hq
              exact bodyPost_ret (v := .tuple #[.agg #[.string ⟨#[]⟩, .int .i64 0, .slice none 0 0, .slice none 0 0], .int .i64 0, .int .i64 26]) (by simp [results, Tryz.results13, go_sem, z0, z1, z2, z3]) rfl (txtd_bad HB5.out (by decide) HTX.out.1 (by rw [HTX.out.2]; rfl))
          · have hk0' : ((k : Int) == 0) = false := by rw [beq_eq_false_iff_ne]; omega
            have hkt : k - 1 < (tT s).length := by omega
            have hyk : (tL s).getD k ⟨#[]⟩ = (tT s).getD (k - 1) ⟨#[]⟩ := by rw [t2]; rw [show k = k - 1 + 1 by omega]; rfl
            rw [hyk] at hcl
            have HHD := hd (HI.out.hed (by omega))
            have HV := hd HI.out.inv
            have HTK := hd (tk_more s k (by omega) hkt)
            have HEA := hd (show nmK s (k + 1) = nmK s k ∧ stK s (k + 1) = stK s k from by unfold nmK stK; exact ⟨by rw [if_neg (by omega), if_neg hk0], by rw [if_neg (by omega), if_neg hk0]⟩)
            have HOK := hd HI.out.oks
            have HME := hd (show (tT s).getD (k - 1) ⟨#[]⟩ ∈ tL s from by
              rw [t2, List.getD_eq_getElem?_getD, List.getElem?_eq_getElem hkt]
              exact List.mem_cons_of_mem _ (List.getElem_mem hkt))
            obtain ⟨y, hy⟩ : ∃ y, y = (tT s).getD (k - 1) ⟨#[]⟩ := ⟨_, rfl⟩
            rw [← hy] at hcl HTK HME
            have HSG := hd (fun W => refSigned_any y W (by have := tL_mem s y HME.out; have := HSZ.out; omega))
            have HYY := hd hy
            have HDS := hd (show dsh y = (y.toList == [45]) from rfl)
            have HLO := hd (show lvOk y = (dsh y || (sgnB y).isSome) from rfl)
            have HDQ := hd (fun h : dsh y = true => dsh_sgn h)
            have hlen : (msT (tkK s k)).length + 1 ≤ 1000 ∧ (nsT (tkK s k)).length + 1 ≤ 1000 := by
              have := HSZ.out
              have h1 : (tkK s k).length ≤ (tT s).length := by unfold tkK; simp; omega
              simp only [msT, nsT, List.length_map]
              omega
            have HP1 := hd (show (msT (tkK s k)).length + 1 ≤ maxLen ∧ ((msT (tkK s k)).length + 1) * 1 ≤ 140737488355328 by unfold maxLen; omega)
            have HP2 := hd (show (nsT (tkK s k)).length + 1 ≤ maxLen ∧ ((nsT (tkK s k)).length + 1) * 8 ≤ 140737488355328 by unfold maxLen; omega)
            have HQN := hd (fun (th' nu' : Value) (X : World) (hok : lvOk y = true) (h : PIv w O (nmK s k) (stK s k) (.slice none 0 0) [] (spl s 10) (.slice (some ⟨g8, 0, none⟩) N c8) th' nu' (msT (tkK s k) ++ [(sgnB y).isSome]) (nsT (tkK s k) ++ [(sgnB y).getD 0]) X) => show QK s w O (.slice (some ⟨g8, 0, none⟩) N c8) (k + 1) th' nu' X from
              ⟨by rw [HTK.out, msT_more, nsT_more, HEA.out.1, HEA.out.2]; exact h, fun _ => HHD.out, fun i hi hl => by
                by_cases e : i = k - 1
                · rw [e, ← HYY.out]; exact hok
                · exact HOK.out i (by omega) hl, fun h => absurd h (by omega)⟩)
            have HTX := hd (show lvOk y = false → txtE s = 26 ∧ txtAt s = k from fun hno => by
              have h1 := fbd_is hkt (fun i hi => HOK.out i hi (by omega)) (by rw [← HYY.out]; exact hno)
              obtain ⟨s1, s2⟩ := txtAt_bad HHD.out (.inl (by omega))
              exact ⟨txtE_syn s1, by omega⟩)
            obtain ⟨M, hM⟩ : ∃ M, M = msT (tkK s k) := ⟨_, rfl⟩
            obtain ⟨V, hV⟩ : ∃ V, V = nsT (tkK s k) := ⟨_, rfl⟩
            rw [← hM, ← hV] at HV HQN
            rw [← hM] at HP1
            rw [← hV] at HP2
            obtain ⟨ds, hds⟩ : ∃ b, b = dsh y := ⟨_, rfl⟩
            rw [← hds] at HDS HLO HDQ
            have hys : (y.toList == [45]) = ds := HDS.out.symm
            obtain ⟨A6, c6, hA6, -⟩ := own_form HV.out.thr
            obtain ⟨A7, c7, hA7, -⟩ := own_form HV.out.num
            subst hA6 hA7
            clear HI hy hyk HME HTK HEA HOK HYY HHD hM hV hds hlen HDS
            obtain ⟨sg, hsg⟩ : ∃ o, o = sgnB y := ⟨_, rfl⟩
            rw [← hsg] at HSG HLO HDQ HQN
            clear hsg
            generalize lvOk y = lo at *
            cases sg with
            | some v =>
              have hlo : lo = true := by rw [HLO.out]; simp
              subst hlo
              have hds : ds = false := by
                cases ds
                · rfl
                · have h := HDQ.out rfl; cases h
              subst hds
              clear HTX HDQ
              go_wp2_with fail
              refine (HSG.out _).mono ?_
              rintro e w3 ⟨rfl, rfl⟩
              have HVT := hd (fun (W' : World) (v' : Value) (ho : W'.ownsRow w.heap.size 4 1 v' (M.length + 1) (M.map Value.bool ++ [.bool true])) (hg : (wr.alloc (Obj.cells #[.bool true] 4)).grownBy W' (Value.slice A6 M.length c6).ownBlock) => (HV.out.below ((Below.refl _ wr).alloc (Nat.le_refl _) (Obj.cells #[.bool true] 4))).addT ho hg)
              go_wp2_with (first
                | (at_builtin; refine wpList_append_own _ rfl (.tmp 106) (.tmp 108) 96 rfl w.heap.size 4 j0 (.bool false) 1 1 Tryz.underlying96 HJ.out.1 HJ.out.2.1 HJ.out.2.2.1 HJ.out.2.2.2 rfl (by decide) _ M.length _ rfl (HV.out.thr.alloc _) ⟨wr.heap.size, 0, none⟩ 1 1 [.bool true] rfl rfl (cell_one_newS _ _ _) (by simp [Value.oneCell']) HP1.out.1 HP1.out.2 (by have := HV.out.bel.size; simp; omega) ?_; intro v7 w7 hown7 hg7 _; have HV7 := hd (HVT.out w7 v7 hown7 hg7); clear hown7 hg7)
                | (at_builtin; refine wpList_append_own _ rfl (.tmp 110) (.tmp 112) 55 rfl w.heap.size 3 i0 (.int .i64 0) 1 8 Tryz.underlying55 HIN.out.1 HIN.out.2.1 HIN.out.2.2.1 HIN.out.2.2.2 rfl (by decide) _ V.length _ rfl (HV7.out.num.alloc _) ⟨w7.heap.size, 0, none⟩ 1 1 [.int .i64 v] rfl rfl (cell_one_newS _ _ _) (by simp [Value.oneCell']) HP2.out.1 HP2.out.2 (by have := HV7.out.bel.size; simp; omega) ?_; intro v8 w8 hown8 hg8 _; have HV8 := hd ((HV7.out.below ((Below.refl _ w7).alloc (Nat.le_refl _) (Obj.cells #[.int .i64 v] 3))).addN hown8 hg8); clear hown8 hg8))
              go_roundw
              case rel => exact ⟨k + 1, _, _, by omega, rfl, rfl, by go_num, hd (HQN.out _ _ _ (by first | exact trivial | exact HLO.out | rfl) HV8.out)⟩
              case measure => simp [intOf]; omega
            | none =>
              cases ds
              · have hlo : lo = false := by rw [HLO.out]; rfl
                subst hlo
                have HTX2 := hd (HTX.out rfl)
                clear HTX HQN HLO HDQ
                go_wp2_with fail
                refine (HSG.out _).mono ?_
                rintro e w3 ⟨rfl, rfl⟩
                have HRz := hd HV.out.res
                have HBz := hd HV.out.bel
                have r0 := blk_cell HRz.out 0
                have r1 := blk_cell HRz.out 1
                have r2 := blk_cell HRz.out 2
                have r3 := blk_cell HRz.out 3
                have y0 := blk_frozen HRz.out 0
                have y1 := blk_frozen HRz.out 1
                have y2 := blk_frozen HRz.out 2
                have y3 := blk_frozen HRz.out 3
                simp at r0 r1 r2 r3
                go_wp2_with fail
                clear r0 y0 r1 y1 r2 y2 r3 y3
                have hq := set4S_blk HRz.out (.string ⟨#[]⟩) (.int .i64 0) (.slice none 0 0) (.slice none 0 0)
                have z0 := blk_cell hq 0
                have z1 := blk_cell hq 1
                have z2 := blk_cell hq 2
                have z3 := blk_cell hq 3
                simp at z0 z1 z2 z3
                have HB5 := hd (set4S_below HBz.out (Nat.le_refl _) (.string ⟨#[]⟩) (.int .i64 0) (.slice none 0 0) (.slice none 0 0))
                change bodyPost _ _ _ _ _ (set4S wr w.heap.size (.string ⟨#[]⟩) (.int .i64 0) (.slice none 0 0) (.slice none 0 0))
                generalize set4S wr w.heap.size (.string ⟨#[]⟩) (.int .i64 0) (.slice none 0 0) (.slice none 0 0) = W6 at *
                clear hq
                exact bodyPost_ret (v := .tuple #[.agg #[.string ⟨#[]⟩, .int .i64 0, .slice none 0 0, .slice none 0 0], .int .i64 (k : Int), .int .i64 26]) (by simp [results, Tryz.results13, go_sem, z0, z1, z2, z3]) rfl (txtd_bad HB5.out (by decide) HTX2.out.1 (by rw [HTX2.out.2]))
              · have hlo : lo = true := by rw [HLO.out]; rfl
                subst hlo
                clear HTX HDQ
                go_wp2_with fail
                refine (HSG.out _).mono ?_
                rintro e w3 ⟨rfl, rfl⟩
                have HVT := hd (fun (W' : World) (v' : Value) (ho : W'.ownsRow w.heap.size 4 1 v' (M.length + 1) (M.map Value.bool ++ [.bool false])) (hg : (wr.alloc (Obj.cells #[.bool false] 4)).grownBy W' (Value.slice A6 M.length c6).ownBlock) => (HV.out.below ((Below.refl _ wr).alloc (Nat.le_refl _) (Obj.cells #[.bool false] 4))).addT ho hg)
                go_wp2_with (first
                  | (at_builtin; refine wpList_append_own _ rfl (.tmp 106) (.tmp 108) 96 rfl w.heap.size 4 j0 (.bool false) 1 1 Tryz.underlying96 HJ.out.1 HJ.out.2.1 HJ.out.2.2.1 HJ.out.2.2.2 rfl (by decide) _ M.length _ rfl (HV.out.thr.alloc _) ⟨wr.heap.size, 0, none⟩ 1 1 [.bool false] rfl rfl (cell_one_newS _ _ _) (by simp [Value.oneCell']) HP1.out.1 HP1.out.2 (by have := HV.out.bel.size; simp; omega) ?_; intro v7 w7 hown7 hg7 _; have HV7 := hd (HVT.out w7 v7 hown7 hg7); clear hown7 hg7)
                  | (at_builtin; refine wpList_append_own _ rfl (.tmp 110) (.tmp 112) 55 rfl w.heap.size 3 i0 (.int .i64 0) 1 8 Tryz.underlying55 HIN.out.1 HIN.out.2.1 HIN.out.2.2.1 HIN.out.2.2.2 rfl (by decide) _ V.length _ rfl (HV7.out.num.alloc _) ⟨w7.heap.size, 0, none⟩ 1 1 [.int .i64 0] rfl rfl (cell_one_newS _ _ _) (by simp [Value.oneCell']) HP2.out.1 HP2.out.2 (by have := HV7.out.bel.size; simp; omega) ?_; intro v8 w8 hown8 hg8 _; have HV8 := hd ((HV7.out.below ((Below.refl _ w7).alloc (Nat.le_refl _) (Obj.cells #[.int .i64 0] 3))).addN hown8 hg8); clear hown8 hg8))
                go_roundw
                case rel => exact ⟨k + 1, _, _, by omega, rfl, rfl, by go_num, hd (HQN.out _ _ _ (by first | exact trivial | exact HLO.out | rfl) HV8.out)⟩
                case measure => simp [intOf]; omega
      · have hk1 : k = (tL s).length + 1 := by have := HLL.out; omega
        have hL0 : (tL s).length ≠ 0 := fun e => by
          have h2 := HI.out.hed (by omega)
          unfold hedB at h2
          rw [e] at h2
          simp at h2
        obtain ⟨t1, t2⟩ := tL_tT s hL0
        have hE0 := HI.out.lst hk1
        have hhd := HI.out.hed (by omega)
        have hok := fbd_all (T := tT s) (fun i hi => HI.out.oks i (by omega) hi)
        have hsy := syn_no hhd hok hE0
        have HV := hd (show PIv w O (tNm s) (tSt s) (.slice none 0 0) [] (spl s 10) (.slice (some ⟨g8, 0, none⟩) N c8) th nu (msT (tT s)) (nsT (tT s)) wr from by
          have h := HI.out.inv
          have ea : nmK s k = tNm s := by unfold nmK; rw [if_neg (by omega)]
          have eb : stK s k = tSt s := by unfold stK; rw [if_neg (by omega)]
          rw [ea, eb, tk_all s k (by omega)] at h
          exact h)
        have hnt : (tT s).length ≤ 4096 := by have := HSZ.out; omega
        have HTE := hd (show txtE s = if fst0 [unl (nameB (tNm s)) 8, rng (tSt s) 0 100000] = 0 then (if (nsT (tT s)).any bigN then 3 else 0) else fst0 [unl (nameB (tNm s)) 8, rng (tSt s) 0 100000] from by
          unfold txtE
          rw [hsy, ← chk_txt (tNm s) (tSt s) (tT s) hnt]; rfl)
        have HTA := hd (show txtE s ≠ 0 → ((txtAt s : Nat) : Int) = (n : Int) from fun h => by unfold txtAt; rw [hsy, HNN.out]; exact congrArg _ (if_neg h))
        have hnz : (tNm s).size ≤ maxLen := by have := tNm_size s; have := HSZ.out; unfold maxLen; omega
        have CN := hd (fun W => refName_any (tNm s) W hnz)
        have HBS := hd (show tBs s = asmK ((nsT (tT s)).map lvQ) (msT (tT s)) ((nsT (tT s)).map lvQ).length by
          have h1 : bsT (tT s) = (nsT (tT s)).map lvQ := by unfold bsT nsT; rw [List.map_map]; rfl
          have h2 : ((nsT (tT s)).map lvQ).length = (tT s).length := by simp [nsT]
          rw [h2, ← h1]; rfl)
        have HGS := hd (show tGs s = strF ((msT (tT s)).map (!·)) (msT (tT s)).length by
          have h2 : (msT (tT s)).length = (tT s).length := by simp [msT]
          rw [h2]; rfl)
        have HMV := hd (show (msT (tT s)).length = (nsT (tT s)).length by simp [msT, nsT])
        have hVl : (nsT (tT s)).length ≤ 1000 := by have := HSZ.out; simp only [nsT, List.length_map]; omega
        have hki : ¬ (k : Int) < (N : Int) := by omega
        clear HI hE0 hhd hok hsy hnt hnz hL0 t1 t2 hk1 hin
        obtain ⟨M, hM⟩ : ∃ M, M = msT (tT s) := ⟨_, rfl⟩
        obtain ⟨V, hV⟩ : ∃ V, V = nsT (tT s) := ⟨_, rfl⟩
        rw [← hM] at HV HBS HGS HMV
        rw [← hV] at HV HTE HBS HMV hVl
        obtain ⟨nm, hnm⟩ : ∃ x, x = tNm s := ⟨_, rfl⟩
        obtain ⟨st, hst⟩ : ∃ x, x = tSt s := ⟨_, rfl⟩
        rw [← hnm] at HV HTE CN
        rw [← hst] at HV HTE
        have HNM := hd hnm
        have HST := hd hst
        clear hM hV hnm hst
        obtain ⟨A6, c6, hA6, -⟩ := own_form HV.out.thr
        obtain ⟨A7, c7, hA7, -⟩ := own_form HV.out.num
        subst hA6 hA7
        have hOlt := blk_lt HV.out.out
        have F0 : ∀ p : Bw wr, p.out.cell? ⟨O, 0, none⟩ = some (.string nm) := fun p => p.cell hOlt (by simpa using blk_cell HV.out.out 0)
        have F1 : ∀ p : Bw wr, p.out.cell? ⟨O, 1, none⟩ = some (.int .i64 st) := fun p => p.cell hOlt (by simpa using blk_cell HV.out.out 1)
        obtain ⟨nb, hnb'⟩ : ∃ x, x = unl (nameB nm) 8 := ⟨_, rfl⟩
        have HNB := hd hnb'
        replace CN := hd (fun W => show Calls Tryz.prog 54 #[.string nm] W fun e w' => e = .returned (.int .i64 nb) ∧ Below W.heap.size W w' from by rw [hnb']; exact CN.out W)
        clear hnb'
        go_wp2_with fail
        refine wp_region_bw_tail 6 (by kernel_rfl) (by kernel_rfl) ?_
        simp only [List.take_succ_cons, List.take_zero, List.drop_succ_cons, List.drop_zero]
        repeat (first | go_big_quiet_step (first | (go_at_call 54; exact Bw.call _ (CN.out _)) | (go_at_call 55; exact Bw.call _ (refRange_any _ _ _ _))))
        refine wpQuiet_nil ?_
        rintro ⟨W2, hB2⟩
        change wpList _ _ _ _ _ W2
        obtain ⟨r1', hr1'⟩ : ∃ x, x = rng st 0 100000 := ⟨_, rfl⟩
        have HR1 := hd hr1'
        rw [← hr1']
        have hR := hd (Rd.new W2 #[.int .i64 nb, .int .i64 r1'] 3 2 ([nb, r1'].map (Value.int .i64)) rfl (by decide))
        have HV3 := hd (HV.out.below (hB2.alloc hB2.size (Obj.cells #[.int .i64 nb, .int .i64 r1'] 3)))
        clear F0 F1 hB2 hr1' HV
        obtain ⟨E, hE⟩ : ∃ E, fst0 [nb, r1'] = E := ⟨_, rfl⟩
        have HE := hd hE
        go_wp2_with fail
        refine (refFirst_any _ [nb, r1'] _ hR.out).mono ?_
        rw [hE]
        rintro e w' ⟨rfl, rfl⟩
        clear hR hE
        generalize (W2.alloc (Obj.cells #[.int .i64 nb, .int .i64 r1'] 3)) = W3 at *
        have HF := hd (show fst0 [unl (nameB nm) 8, rng st 0 100000] = E from by rw [← HNB.out, ← HR1.out]; exact HE.out)
        rw [HF.out] at HTE
        clear HNB HR1 HE HF CN
        by_cases hE0 : E = 0
        · subst hE0
          have HTE2 := hd (HTE.out.trans (if_pos rfl))
          have hmany : ¬ (4096 : Int) < ((V.length : Nat) : Int) := by omega
          have HL0 := hd (show ∃ LV, PIv w O nm st LV ((V.take 0).map lvQ) (spl s 10) (.slice (some ⟨g8, 0, none⟩) N c8) (.slice A6 M.length c6) (.slice A7 V.length c7) M V W3 from ⟨_, HV3.out⟩)
          clear HTE HV3
          go_wp2
          go_loopw [16] (fun i wr => ∃ k : Nat, k ≤ V.length ∧ i = .int .i64 k ∧ Hid (∃ LV, PIv w O nm st LV ((V.take k).map lvQ) (spl s 10) (.slice (some ⟨g8, 0, none⟩) N c8) (.slice A6 M.length c6) (.slice A7 V.length c7) M V wr) ∧ Hid (∀ j, j < k → bigN (V.getD j 0) = false)) (fun i _ => V.length - (intOf i).toNat)
          case atStart => exact ⟨0, Nat.zero_le _, rfl, HL0, hd (fun j hj => absurd hj (by omega))⟩
          case round =>
            obtain ⟨q, hq, rfl, HJ, HBG⟩ := hrel
            clear HL0
            obtain ⟨LV, HVL⟩ := HJ.out
            have HW := hd HVL
            clear HJ HVL
            by_cases hlt : q < V.length
            · have hqi : (q : Int) < ((V.length : Nat) : Int) := by omega
              obtain ⟨A', c', e', -, -, hx⟩ := rd_of_own HW.out.num
              cases e'
              obtain ⟨b, off, rfl, hbb, hcell⟩ := hx (by omega)
              have hnc : wr.cell? ⟨b, off + q, none⟩ = some (.int .i64 (V.getD q 0)) := by rw [hcell q (by simpa using hlt)]; simp [hlt]
              obtain ⟨v, hv⟩ : ∃ v, v = V.getD q 0 := ⟨_, rfl⟩
              rw [← hv] at hnc
              have HVV := hd hv
              clear hcell hx hv
              by_cases hbig : 1024 < v ∨ v < -1024
              · have HLV := hd (fun W => refLevel_no v W hbig)
                have HTX := hd (show txtE s = 3 from by
                  rw [HTE2.out, if_pos]
                  refine List.any_eq_true.2 ⟨v, ?_, ?_⟩
                  · rw [HVV.out, List.getD_eq_getElem?_getD, List.getElem?_eq_getElem hlt]; exact List.getElem_mem hlt
                  · unfold bigN; simp; omega)
                have HTN := hd (HTA.out (by rw [HTX.out]; decide))
                clear hbig
                go_wp2_with fail
                refine (HLV.out _).mono ?_
                rintro e w5 ⟨rfl, hw5⟩
                have hw5' := hw5.symm
                subst hw5'
                have HRz := hd HW.out.res
                have HBz := hd HW.out.bel
                have r0 := blk_cell HRz.out 0
                have r1 := blk_cell HRz.out 1
                have r2 := blk_cell HRz.out 2
                have r3 := blk_cell HRz.out 3
                have y0 := blk_frozen HRz.out 0
                have y1 := blk_frozen HRz.out 1
                have y2 := blk_frozen HRz.out 2
                have y3 := blk_frozen HRz.out 3
                simp at r0 r1 r2 r3
                go_wp2_with fail
                clear r0 y0 r1 y1 r2 y2 r3 y3
                have hq := set4S_blk HRz.out (.string ⟨#[]⟩) (.int .i64 0) (.slice none 0 0) (.slice none 0 0)
                have z0 := blk_cell hq 0
                have z1 := blk_cell hq 1
                have z2 := blk_cell hq 2
                have z3 := blk_cell hq 3
                simp at z0 z1 z2 z3
                have HB5 := hd (set4S_below HBz.out (Nat.le_refl _) (.string ⟨#[]⟩) (.int .i64 0) (.slice none 0 0) (.slice none 0 0))
                change bodyPost _ _ _ _ _ (set4S wr w.heap.size (.string ⟨#[]⟩) (.int .i64 0) (.slice none 0 0) (.slice none 0 0))
                generalize set4S wr w.heap.size (.string ⟨#[]⟩) (.int .i64 0) (.slice none 0 0) (.slice none 0 0) = W6 at *
                clear hq
                exact bodyPost_ret (v := .tuple #[.agg #[.string ⟨#[]⟩, .int .i64 0, .slice none 0 0, .slice none 0 0], .int .i64 (n : Int), .int .i64 3]) (by simp [results, Tryz.results13, go_sem, z0, z1, z2, z3]) rfl (txtd_bad HB5.out (by decide) HTX.out HTN.out)
              · have hb1 : ¬ 1024 < v := by omega
                have hb2 : ¬ v < -1024 := by omega
                have HLV := hd (fun W => refLevel_yes v W hb1 hb2)
                have HBG2 := hd (show ∀ j, j < q + 1 → bigN (V.getD j 0) = false from fun j hj => by
                  by_cases e : j = q
                  · rw [e, ← HVV.out]; unfold bigN; simp; omega
                  · exact HBG.out j (by omega))
                have hlq : ((V.take q).map lvQ).length = q := by simp; omega
                have hlk : (V.take (q + 1)).map lvQ = (V.take q).map lvQ ++ [lvQ v] := by
                  have hvq : V[q]'hlt = v := by rw [HVV.out]; simp [hlt]
                  rw [List.take_add_one, List.getElem?_eq_getElem hlt, hvq]; simp
                obtain ⟨A8, c9, hA8', -⟩ := own_form HW.out.lev
                subst hA8'
                have HLQ := hd hlq
                have HLK := hd hlk
                obtain ⟨PL, hPL⟩ : ∃ PL, PL = (V.take q).map lvQ := ⟨_, rfl⟩
                rw [← hPL] at HW HLK HLQ
                have H63 := hd (show PL.length + 1 ≤ maxLen ∧ (PL.length + 1) * 4 ≤ 140737488355328 by have := HLQ.out; unfold maxLen; omega)
                have o2 := blk_cell HW.out.out 2
                simp at o2
                obtain ⟨lq, hlv⟩ : ∃ x, x = lvQ v := ⟨_, rfl⟩
                rw [← hlv] at HLV HLK
                clear hbig hb1 hb2 hlq hlk hPL hlv HBG
                go_wp2_with fail
                refine (HLV.out _).mono ?_
                rintro e w5 ⟨rfl, hw5⟩
                have hw5' := hw5.symm
                subst hw5'
                have HW5 := hd (HW.out.below ((Below.refl _ wr).alloc (Nat.le_refl _) (Obj.cells #[.float .f32 lq] 65)))
                go_wp2_with (at_builtin; refine wpList_append_own _ rfl (.tmp 157) (.tmp 159) 22 rfl w.heap.size 65 f0 (.float .f32 0) 1 4 Tryz.underlying22 HFL.out.1 HFL.out.2.1 HFL.out.2.2.1 HFL.out.2.2.2 rfl (by decide) _ PL.length _ rfl HW5.out.lev ⟨wr.heap.size, 0, none⟩ 1 1 [.float .f32 lq] rfl rfl (cell_one_newS _ _ _) (by simp [Value.oneCell']) H63.out.1 H63.out.2 (by have := HW.out.bel.size; simp; omega) ?_; intro v7 w7 hown7 hg7 _; obtain ⟨A9, c10, hv9, -⟩ := own_form hown7; subst hv9; have hb7 := (hg7.block O (blk_lt HW5.out.out) (blk_not_row HW5.out.out (by decide) HW5.out.lev)).trans HW5.out.out; have p2 := blk_cell hb7 2; have p3 := blk_frozen hb7 2; simp at p2; have HW7 := hd (HW5.out.addL hown7 hg7); clear hown7 hg7 hb7)
                go_roundw
                case rel => exact ⟨q + 1, by omega, by go_num, hd ⟨_, by rw [HLK.out]; exact HW7.out⟩, HBG2⟩
                case measure => simp [intOf]; omega
            · obtain rfl : q = V.length := by omega
              have HTX := hd (show txtE s = 0 from by
                rw [HTE2.out, if_neg]
                intro h
                obtain ⟨y, hy1, hy2⟩ := List.any_eq_true.1 h
                obtain ⟨j, hj, hjn⟩ := List.getElem_of_mem hy1
                have h3 := HBG.out j hj
                rw [List.getD_eq_getElem?_getD, List.getElem?_eq_getElem hj] at h3
                rw [← hjn] at hy2
                have h4 : bigN V[j] = false := h3
                rw [h4] at hy2; cases hy2)
              have HX := hd (show PIv w O nm st LV (V.map lvQ) (spl s 10) (.slice (some ⟨g8, 0, none⟩) N c8) (.slice A6 M.length c6) (.slice A7 V.length c7) M V wr from by
                have h := HW.out
                rw [List.take_length] at h; exact h)
              obtain ⟨BL, hBL⟩ : ∃ BL, BL = V.map lvQ := ⟨_, rfl⟩
              rw [← hBL] at HX HBS
              have HBL := hd (show M.length = BL.length ∧ BL.length ≤ 1000 by rw [hBL, HMV.out]; simp; omega)
              clear HW HBG HTE2 HTA hBL
              obtain ⟨A8, c9, hA8', -⟩ := own_form HX.out.lev
              subst hA8'
              have HKP := hd (refKept_any nm st (.slice A8 BL.length c9) (.slice none 0 0) (.slice A6 M.length c6) BL 0 [] M wr (rd_of_own HX.out.lev) (Rd.nil _ _) (rd_of_own HX.out.thr) HBL.out.1 (by have := HBL.out.2; omega))
              have o0 := blk_cell HX.out.out 0
              have o1 := blk_cell HX.out.out 1
              have o2 := blk_cell HX.out.out 2
              have o3 := blk_cell HX.out.out 3
              simp at o0 o1 o2 o3
              have hOx := blk_lt HX.out.out
              have HRO := hd (show w.heap.size ≠ O by have := HX.out.low; omega)
              have HOB := hd (And.intro HX.out.out (And.intro HX.out.res HX.out.bel))
              go_wp2_with fail
              refine HKP.out.mono ?_
              rintro e w8 ⟨LW, GW, rfl, ho1, ho2, hb8⟩
              obtain ⟨B1, d1, rfl, -⟩ := own_form ho1
              obtain ⟨B2, d2, rfl, -⟩ := own_form ho2
              have HO1 := hd ho1
              have HO2 := hd ho2
              have HX8 := hd (HX.out.below hb8)
              clear ho1 ho2 hb8 HKP o0 o1 o2 o3 HX HOB
              rw [← HBS.out] at HO1
              rw [← HGS.out] at HO2
              rw [← HBS.out, ← HGS.out]
              have HOb := hd HX8.out.out
              have HRb := hd HX8.out.res
              have ro0 := blk_cell HOb.out 0
              have ro1 := blk_cell HOb.out 1
              have ro2 := blk_cell HOb.out 2
              have ro3 := blk_cell HOb.out 3
              have yo0 := blk_frozen HOb.out 0
              have yo1 := blk_frozen HOb.out 1
              have yo2 := blk_frozen HOb.out 2
              have yo3 := blk_frozen HOb.out 3
              simp at ro0 ro1 ro2 ro3
              have r0 := blk_cell HRb.out 0
              have r1 := blk_cell HRb.out 1
              have r2 := blk_cell HRb.out 2
              have r3 := blk_cell HRb.out 3
              have y0 := blk_frozen HRb.out 0
              have y1 := blk_frozen HRb.out 1
              have y2 := blk_frozen HRb.out 2
              have y3 := blk_frozen HRb.out 3
              simp at r0 r1 r2 r3
              have hne := HRO.out
              have hne' := hne.symm
              go_wp2_with fail
              clear ro0 yo0 ro1 yo1 ro2 yo2 ro3 yo3
              clear r0 y0 r1 y1 r2 y2 r3 y3
              have HOb2 := hd (set4S_blk HOb.out (.string nm) (.int .i64 st) (.slice B1 (tBs s).length d1) (.slice B2 (tGs s).length d2))
              have HRb2 := hd ((set4S_other w8 HRO.out _ _ _ _).trans HRb.out : (set4S w8 O (.string nm) (.int .i64 st) (.slice B1 (tBs s).length d1) (.slice B2 (tGs s).length d2)).heap[w.heap.size]? = _)
              have HL2 := hd (own_set4S (R := O) (a := .string nm) (b := .int .i64 st) (c := .slice B1 (tBs s).length d1) (d := .slice B2 (tGs s).length d2) HO1.out (own_boxS HO1.out HOb.out (by decide)))
              have HG2 := hd (own_set4S (R := O) (a := .string nm) (b := .int .i64 st) (c := .slice B1 (tBs s).length d1) (d := .slice B2 (tGs s).length d2) HO2.out (own_boxS HO2.out HOb.out (by decide)))
              have HBl2 := hd (set4S_below HX8.out.bel (R := O) (by have := HX8.out.low; omega) (.string nm) (.int .i64 st) (.slice B1 (tBs s).length d1) (.slice B2 (tGs s).length d2))
              change bodyPost _ _ _ _ _ (set4S (set4S w8 O (.string nm) (.int .i64 st) (.slice B1 (tBs s).length d1) (.slice B2 (tGs s).length d2)) w.heap.size (.string nm) (.int .i64 st) (.slice B1 (tBs s).length d1) (.slice B2 (tGs s).length d2))
              generalize set4S w8 O (.string nm) (.int .i64 st) (.slice B1 (tBs s).length d1) (.slice B2 (tGs s).length d2) = W9 at *
              clear hne hne'
              have hq := set4S_blk HRb2.out (.string nm) (.int .i64 st) (.slice B1 (tBs s).length d1) (.slice B2 (tGs s).length d2)
              have z0 := blk_cell hq 0
              have z1 := blk_cell hq 1
              have z2 := blk_cell hq 2
              have z3 := blk_cell hq 3
              simp at z0 z1 z2 z3
              have HB5 := hd (set4S_below HBl2.out (Nat.le_refl _) (.string nm) (.int .i64 st) (.slice B1 (tBs s).length d1) (.slice B2 (tGs s).length d2))
              have HL6 := hd (rd_of_own (own_set4S (R := w.heap.size) (a := .string nm) (b := .int .i64 st) (c := .slice B1 (tBs s).length d1) (d := .slice B2 (tGs s).length d2) HL2.out (own_boxS HL2.out HRb2.out (by decide))))
              have HG6 := hd (rd_of_own (own_set4S (R := w.heap.size) (a := .string nm) (b := .int .i64 st) (c := .slice B1 (tBs s).length d1) (d := .slice B2 (tGs s).length d2) HG2.out (own_boxS HG2.out HRb2.out (by decide))))
              generalize set4S W9 w.heap.size (.string nm) (.int .i64 st) (.slice B1 (tBs s).length d1) (.slice B2 (tGs s).length d2) = W6 at *
              clear hq
              exact bodyPost_ret (v := .tuple #[.agg #[.string nm, .int .i64 st, .slice B1 (tBs s).length d1, .slice B2 (tGs s).length d2], .int .i64 0, .int .i64 0]) (by simp [results, Tryz.results13, go_sem, z0, z1, z2, z3]) rfl ⟨HB5.out, .inl ⟨HTX.out, _, _, by rw [HNM.out, HST.out], HL6.out, HG6.out⟩⟩
        · have hE0' : (E != 0) = true := by simpa using hE0
          have HTX := hd (HTE.out.trans (if_neg hE0))
          have HTN := hd (HTA.out (by rw [HTX.out]; exact hE0))
          have HEN := hd hE0
          clear hE0 HTE HTA
          have HRz := hd HV3.out.res
          have HBz := hd HV3.out.bel
          have r0 := blk_cell HRz.out 0
          have r1 := blk_cell HRz.out 1
          have r2 := blk_cell HRz.out 2
          have r3 := blk_cell HRz.out 3
          have y0 := blk_frozen HRz.out 0
          have y1 := blk_frozen HRz.out 1
          have y2 := blk_frozen HRz.out 2
          have y3 := blk_frozen HRz.out 3
          simp at r0 r1 r2 r3
          go_wp2_with fail
          clear r0 y0 r1 y1 r2 y2 r3 y3
          have hq := set4S_blk HRz.out (.string ⟨#[]⟩) (.int .i64 0) (.slice none 0 0) (.slice none 0 0)
          have z0 := blk_cell hq 0
          have z1 := blk_cell hq 1
          have z2 := blk_cell hq 2
          have z3 := blk_cell hq 3
          simp at z0 z1 z2 z3
          have HB5 := hd (set4S_below HBz.out (Nat.le_refl _) (.string ⟨#[]⟩) (.int .i64 0) (.slice none 0 0) (.slice none 0 0))
          change bodyPost _ _ _ _ _ (set4S W3 w.heap.size (.string ⟨#[]⟩) (.int .i64 0) (.slice none 0 0) (.slice none 0 0))
          generalize set4S W3 w.heap.size (.string ⟨#[]⟩) (.int .i64 0) (.slice none 0 0) (.slice none 0 0) = W6 at *
          clear hq
          exact bodyPost_ret (v := .tuple #[.agg #[.string ⟨#[]⟩, .int .i64 0, .slice none 0 0, .slice none 0 0], .int .i64 (n : Int), .int .i64 E]) (by simp [results, Tryz.results13, go_sem, z0, z1, z2, z3]) rfl (txtd_bad HB5.out HEN.out HTX.out HTN.out)
end Go.Proofs.YtnncmaegmlaabaaGreatDoor
