/-
  Contracts of the reference's Recorded and gaps. Conditions: the index is below the number of levels; at most 100000 marks.
  Contracts of the reference's Sixteenths and Above, at valid records.
-/
import Derived.Test.YtnncmaegmlaabaaGreatDoorProg
import Derived.Test.YtnncmaegmlaabaaGreatDoorH2
import Derived.Test.YtnncmaegmlaabaaGreatDoorT1
import Derived.OwnWalk

namespace Go.Proofs.YtnncmaegmlaabaaGreatDoor
open Go.RowKit
attribute [local go_sem] Oper.semAt_some

set_option maxRecDepth 1000000 in
set_option maxHeartbeats 1000000 in
theorem refRecorded_any (nm : ByteArray) (st : Int) (A A2 : Option Addr) (n c c2 : Nat) (gs : List (Int × Int)) (i : Nat) (w : World) (hg : Rd w w.heap.size (.slice A2 gs.length c2) gs.length (spc gs)) (hi : i < n) :
    Calls Tryz.prog 60 #[.agg #[.string nm, .int .i64 st, .slice A n c, .slice A2 gs.length c2], .int .i64 i] w fun e w' => e = .returned (.bool (!hasL gs i)) ∧ Below w.heap.size w w' := by
  have HB := hd (show Below w.heap.size w (w.alloc (Obj.cells #[.string nm, .int .i64 st, .slice A n c, .slice A2 gs.length c2] 25)) from (Below.refl _ w).alloc (Nat.le_refl _) _)
  have HG := hd ((hg.below HB.out (Nat.le_refl _)).mono HB.out.size)
  have hi' : (i : Int) < (n : Int) := by omega
  clear hg
  cases hh : hasL gs i
  all_goals
    have HH := hd hh
    clear hh
    go_enter Tryz.func60, Tryz.ntmps60
    go_wp2_with fail
    refine (has_any _ gs i _ HG.out).mono ?_
    rw [HH.out]
    rintro e w' ⟨rfl, rfl⟩
    go_wp2_with fail
    go_returns
    exact ⟨rfl, HB.out⟩

theorem not_at (ts : List Bool) (k : Nat) (hk : k < ts.length) : (ts.map (!·)).getD k false = !ts.getD k false := by simp [hk]
theorem strF_next (bs : List Bool) (k : Nat) : strF bs (k + 1) = if bs.getD k false then ext (strF bs k) k (k + 1) else strF bs k := rfl

set_option maxRecDepth 1000000 in
set_option maxHeartbeats 4000000 in
theorem refGaps_any (sl : Value) (ts : List Bool) (w : World) (h : Rd w w.heap.size sl ts.length (ts.map Value.bool)) (hn : ts.length ≤ 100000) :
    Calls Tryz.prog 112 #[sl] w (OwnsSp w.heap.size (strF (ts.map (!·)) ts.length) w) := by
  obtain ⟨j0, hj, hy0, hy1, hy2⟩ := info_parts spanInfo
  obtain ⟨A, c, rfl, hc1, hc2, hc⟩ := h
  unfold maxLen at hc2
  have HC := hd hc
  have HJ := hd (And.intro hj (And.intro hy0 (And.intro hy1 hy2)))
  have HNN := hd hn
  clear hc hj hy0 hy1 hy2 hn
  go_enter Tryz.func112, Tryz.ntmps112
  go_wp2
  go_loopw [3, 4] (fun o i wr => ∃ k : Nat, k ≤ ts.length ∧ i = .int .i64 k ∧ Hid (wr.ownsRow w.heap.size 63 2 o (strF (ts.map (!·)) k).length (spc (strF (ts.map (!·)) k))) ∧ Below w.heap.size w wr) (fun _ i _ => ts.length - (intOf i).toNat)
  case atStart => exact ⟨0, Nat.zero_le _, rfl, hd (World.ownsRow_nil _ _ _ _), Below.refl _ _⟩
  case round =>
    obtain ⟨k, hk, rfl, HO, hb⟩ := hrel
    obtain ⟨A5, c5, hv5, -⟩ := own_form HO.out
    subst hv5
    have HB := hd hb
    by_cases hlt : k < ts.length
    · obtain ⟨b, off, rfl, hbb, hcell⟩ := HC.out (by omega)
      have hs0 : wr.cell? ⟨b, off + k, none⟩ = some (.bool (ts.getD k false)) := (hb.cell (p := ⟨b, _, none⟩) hbb).trans ((hcell k (by simpa using hlt)).trans (by simp [hlt]))
      have HF := hd (strF_next (ts.map (!·)) k)
      have hna := not_at ts k hlt
      rw [hna] at HF
      have hll := strF_len (ts.map (!·)) k
      clear hcell hb hna
      generalize ts.getD k false = t at hs0 HF
      generalize strF (ts.map (!·)) k = L at *
      have HPL := hd (show L.length + 1 ≤ maxLen by have := HNN.out; unfold maxLen; omega)
      have HPB := hd (show (L.length + 1) * 16 ≤ 140737488355328 by have := HNN.out; omega)
      have hl9 : L.length ≤ 4611686018427387904 := by have := HNN.out; omega
      cases t
      · -- a gap
        have HFe := hd (show strF (ts.map (!·)) (k + 1) = ext L k (k + 1) from HF.out)
        clear HF
        rcases List.eq_nil_or_concat L with hL | ⟨m, ⟨a, x⟩, hL⟩
        · subst hL
          have HFn := hd (show strF (ts.map (!·)) (k + 1) = [] ++ [((k : Int), (k : Int) + 1)] from by rw [HFe.out]; rfl)
          clear HFe
          simp only [List.length_nil] at *
          go_wp2_with (at_builtin; refine wpList_append_own _ rfl (.tmp 37) (.tmp 42) 23 rfl w.heap.size 63 j0 (.agg #[.int .i64 0, .int .i64 0]) 2 16 Tryz.underlying23 HJ.out.1 HJ.out.2.1 HJ.out.2.2.1 HJ.out.2.2.2 rfl (by decide) (.slice A5 0 c5) 0 [] rfl ?c0 ⟨wr.heap.size, 0, none⟩ 1 1 [.int .i64 k, .int .i64 ((k : Int) + 1)] rfl rfl ?c1 ?c2 ?c3 ?c4 ?c5 ?_)
          case c0 => exact HO.out.alloc _
          try (case c1 => exact new_two _ _ _ _)
          case c2 => first | exact ⟨rfl, rfl⟩ | exact one_spc [((k : Int), (k : Int) + 1)]
          case c3 => exact HPL.out
          case c4 => exact HPB.out
          case c5 => have := HB.out.size; first | omega | (simp; omega)
          intro v' w8 hown8 hg8 _
          have HO8 := hd (show w8.ownsRow w.heap.size 63 2 v' ([] ++ [((k : Int), (k : Int) + 1)]).length (spc ([] ++ [((k : Int), (k : Int) + 1)])) from hown8)
          have HB8 := hd ((HB.out.alloc HB.out.size _).trans (gb_below hg8 (HB.out.alloc HB.out.size _).size (fun kk hk => (HO.out.lt kk hk).1)))
          clear hown8 hg8 HO HB
          go_wp2
          go_roundw
          case rel => exact ⟨k + 1, by omega, by go_num, by rw [HFn.out]; exact HO8, HB8.out⟩
          case measure => simp [intOf]; omega
        · rw [List.concat_eq_append] at hL
          subst hL
          have hl1 : (m ++ [(a, x)]).length = m.length + 1 := by simp
          simp only [hl1] at *
          obtain ⟨g, cap, cur, hv, -⟩ : ∃ g cap cur, (Value.slice A5 (m.length + 1) c5) = .slice (some ⟨g, 0, none⟩) (m.length + 1) cap ∧ wr.heap[g]? = some (.cells cur 63 (0, 0)) := by
            rcases HO.out.2 with ⟨_, h0⟩ | ⟨g, cap, cur, e, _, hh, _⟩
            · omega
            · exact ⟨g, cap, cur, e, hh⟩
          injection hv with e1 _ e3
          subst e1 e3
          have q1 : wr.cell? ⟨g, m.length * 2 + 1, none⟩ = some (.int .i64 x) := by
            rw [HO.out.cellAt _ (by omega), spc_append, List.getElem?_append_right (by rw [spc_len]; omega), spc_len, show m.length * 2 + 1 - 2 * m.length = 1 by omega]
            rfl
          have q2 := HO.out.frozenAt (m.length * 2 + 1)
          by_cases hx : x = k
          · subst hx
            have HFn := hd (show strF (ts.map (!·)) (k + 1) = m ++ [(a, (k : Int) + 1)] from by rw [HFe.out, ext_snoc, if_pos rfl])
            have HO8 := hd (show (wr.setCell ⟨g, m.length * 2 + 1, none⟩ (.int .i64 ((k : Int) + 1))).ownsRow w.heap.size 63 2 (.slice (some ⟨g, 0, none⟩) (m.length + 1) c5) (m ++ [(a, (k : Int) + 1)]).length (spc (m ++ [(a, (k : Int) + 1)])) from by
              rw [spc_set m a k ((k : Int) + 1), show (m ++ [(a, (k : Int) + 1)]).length = m.length + 1 by simp]
              exact (HO.out.stored (m.length * 2 + 1) (.int .i64 ((k : Int) + 1))).1)
            have HB8 := hd (HB.out.trans (gb_below (gb_set wr g (m.length * 2 + 1) (.int .i64 ((k : Int) + 1))) HB.out.size (fun kk hk => by cases hk; exact (HO.out.lt g rfl).1)))
            clear HFe HO HB
            go_wp2_with fail
            go_roundw
            case rel => exact ⟨k + 1, by omega, by go_num, by rw [HFn.out]; exact HO8, HB8.out⟩
            case measure => simp [intOf]; omega
          · have hxb : (x == (k : Int)) = false := by simpa using hx
            have HFn := hd (show strF (ts.map (!·)) (k + 1) = (m ++ [(a, x)]) ++ [((k : Int), (k : Int) + 1)] from by rw [HFe.out, ext_snoc, if_neg hx])
            clear HFe hx
            go_wp2_with (at_builtin; refine wpList_append_own _ rfl (.tmp 37) (.tmp 42) 23 rfl w.heap.size 63 j0 (.agg #[.int .i64 0, .int .i64 0]) 2 16 Tryz.underlying23 HJ.out.1 HJ.out.2.1 HJ.out.2.2.1 HJ.out.2.2.2 rfl (by decide) (.slice (some ⟨g, 0, none⟩) (m.length + 1) c5) (m.length + 1) (spc (m ++ [(a, x)])) rfl ?c0 ⟨wr.heap.size, 0, none⟩ 1 1 [.int .i64 k, .int .i64 ((k : Int) + 1)] rfl rfl ?c1 ?c2 ?c3 ?c4 ?c5 ?_)
            case c0 => exact HO.out.alloc _
            try (case c1 => exact new_two _ _ _ _)
            case c2 => first | exact ⟨rfl, rfl⟩ | exact one_spc [((k : Int), (k : Int) + 1)]
            case c3 => exact HPL.out
            case c4 => exact HPB.out
            case c5 => have := HB.out.size; first | omega | (simp; omega)
            intro v' w8 hown8 hg8 _
            have HO8 := hd (show w8.ownsRow w.heap.size 63 2 v' ((m ++ [(a, x)]) ++ [((k : Int), (k : Int) + 1)]).length (spc ((m ++ [(a, x)]) ++ [((k : Int), (k : Int) + 1)])) from by
              rw [List.length_append, spc_append (m ++ [(a, x)]), show (m ++ [(a, x)]).length = m.length + 1 by simp]
              exact hown8)
            have HB8 := hd ((HB.out.alloc HB.out.size _).trans (gb_below hg8 (HB.out.alloc HB.out.size _).size (fun kk hk => (HO.out.lt kk hk).1)))
            clear hown8 hg8 HO HB
            go_wp2
            go_roundw
            case rel => exact ⟨k + 1, by omega, by go_num, by rw [HFn.out]; exact HO8, HB8.out⟩
            case measure => simp [intOf]; omega
      · have HFe := hd (show strF (ts.map (!·)) (k + 1) = L from HF.out)
        clear HF
        go_wp2
        go_roundw
        case rel => exact ⟨k + 1, by omega, by go_num, by rw [HFe.out]; exact HO, HB.out⟩
        case measure => simp [intOf]; omega
    · have hke : k = ts.length := by omega
      subst hke
      clear hb
      go_wp2
      go_returns
      exact ⟨_, rfl, HO.out, HB.out⟩
end Go.Proofs.YtnncmaegmlaabaaGreatDoor

namespace Go.Proofs.YtnncmaegmlaabaaGreatDoor
open Go.RowKit
attribute [local go_sem] Oper.semAt_some

set_option maxRecDepth 100000 in
theorem refSixt_any (b : Nat) (w : World) (h : chkLev b = 0) : Calls Tryz.prog 61 #[.float .f32 b] w fun e w' => e = .returned (.int .i64 (s16 b)) ∧ w = w' := by
  have hok : levOK b = true := by rw [levOK_iff]; simpa using h
  obtain ⟨hs, -, -⟩ := sixt_of hok
  have hM : ∃ s m e, FloatKind.f32.decode b = .number s m e ∧ magOf dbl m e ≤ 64 * oneU dbl := by
    unfold chkLev at h
    cases hd0 : FloatKind.f32.decode b with
    | nan s t => rw [hd0] at h; cases h
    | infinity s => rw [hd0] at h; cases h
    | number s m e =>
      rw [hd0] at h
      simp only at h
      split at h
      · rename_i hc; exact ⟨s, m, e, rfl, hc.2⟩
      · cases h
  obtain ⟨s, m, e, hd0, hM⟩ := hM
  obtain ⟨hf, he⟩ := f32_top hd0
  obtain ⟨x, y, L⟩ := levF_of hf he
  have hi := (sixt_wide L hf he rfl hM).trans hs
  have hc := fun w => run_convert_float_float (P := Tryz.prog) w 65 161 .f32 .f64 b x (by kernel_rfl) Tryz.underlying161 L.wide
  have hm := fun w => run_float_arith (P := Tryz.prog) w .mul 161 .f64 4625196817309499392 x y L.big'
  have hc2 := fun w => run_convert_float_int (P := Tryz.prog) w 161 3 .f64 .i64 y (s16 b) (by kernel_rfl) Tryz.underlying3 hi
  clear L hf he hd0 hi hM hs hok h
  go_enter Tryz.func61, Tryz.ntmps61
  go_wp2
  go_ret
  exact ⟨rfl, rfl⟩

theorem fle_num {a b : Nat} (ha : finB a = true) (hb : finB b = true) : (FloatKind.f32.format.order a b == some .lt || FloatKind.f32.format.order a b == some .eq) = !decide (num b < num a) := by
  rw [ord_num ha hb, cmp_lt, cmp_eq, ← Bool.decide_or, ← decide_not, decide_eq_decide]
  omega

/-- The marks of the levels that are not above one, as the reference sets them one by one. -/
def blwL (bs : List Nat) (gs : List (Int × Int)) (lev k : Nat) : List Bool := (List.range bs.length).map fun i => decide (i < k) && !(!hasL gs (i : Nat) && decide (num lev < num (bs.getD i 0)))
theorem blwL_len (bs : List Nat) (gs : List (Int × Int)) (lev k : Nat) : (blwL bs gs lev k).length = bs.length := by simp [blwL]
theorem blwL_zero (bs : List Nat) (gs : List (Int × Int)) (lev : Nat) : (blwL bs gs lev 0).map Value.bool = List.replicate bs.length (.bool false) := by
  apply List.ext_getElem
  · simp [blwL]
  · intro i h1 h2
    simp [blwL]
theorem blwL_set (bs : List Nat) (gs : List (Int × Int)) (lev k : Nat) : ((blwL bs gs lev k).map Value.bool).set k (.bool (!(!hasL gs (k : Nat) && decide (num lev < num (bs.getD k 0))))) = (blwL bs gs lev (k + 1)).map Value.bool := by
  apply List.ext_getElem
  · simp [blwL]
  · intro i h1 h2
    rw [List.getElem_set]
    by_cases e : k = i
    · subst e
      simp [blwL]
    · rw [if_neg e]
      have : (i < k + 1) ↔ (i < k) := by omega
      simp [blwL, this]
/-- The marks of the levels above one. -/
def abvL (bs : List Nat) (gs : List (Int × Int)) (lev : Nat) : List Bool := (List.range bs.length).map fun i => !hasL gs (i : Nat) && decide (num lev < num (bs.getD i 0))
theorem blwL_not (bs : List Nat) (gs : List (Int × Int)) (lev : Nat) : (blwL bs gs lev bs.length).map (!·) = abvL bs gs lev := by
  unfold blwL abvL
  rw [List.map_map]
  apply List.map_congr_left
  intro i hi
  have : i < bs.length := by simpa using hi
  simp [this]

end Go.Proofs.YtnncmaegmlaabaaGreatDoor
