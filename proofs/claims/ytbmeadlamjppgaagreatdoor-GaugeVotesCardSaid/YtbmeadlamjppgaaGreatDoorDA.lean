/-
  GaugeVotes (P1.4): for every three records and tolerance, Vote answers as the document says. Conditions: the row's own (the listed library tables as the program's text lays them, tied by the card).
-/
import Derived.Test.YtbmeadlamjppgaaGreatDoorRows
import Derived.Test.YtbmeadlamjppgaaGreatDoorCards
import Derived.Test.YtbmeadlamjppgaaGreatDoorTie
import Derived.Test.YtbmeadlamjppgaaGreatDoorRow
import Derived.SevenTiedAt
import Derived.Test.YtbmeadlamjppgaaGreatDoorOpm
import Derived.Test.YtbmeadlamjppgaaGreatDoorProg
import Derived.Lib.SmallJoins
import Derived.Test.YtbmeadlamjppgaaGreatDoorD6
import Derived.Test.YtbmeadlamjppgaaGreatDoorD8
import Derived.Test.YtbmeadlamjppgaaGreatDoorD9
import Derived.Test.YtbmeadlamjppgaaGreatDoorD7
import Derived.Test.YtbmeadlamjppgaaGreatDoorD5
import Derived.Test.YtbmeadlamjppgaaGreatDoorD4
import Derived.Test.YtbmeadlamjppgaaGreatDoorD2
import Derived.Test.YtbmeadlamjppgaaGreatDoorT0
import Derived.Test.YtbmeadlamjppgaaGreatDoorT1
import Derived.Test.YtbmeadlamjppgaaGreatDoorEK
import Derived.Test.YtbmeadlamjppgaaGreatDoorQS
import Derived.Test.YtbmeadlamjppgaaGreatDoorMO
import Derived.Test.YtbmeadlamjppgaaGreatDoorM3
namespace Go.Proofs.YtbmeadlamjppgaaGreatDoor
open Go Go.ChangeShapes Go.WideShapes Go.ChangeAt Go.RowKit Go.Joins Go.Deep

theorem okWide_arrA {P : Program} {W : World} {r : Reach} {b0 : Nat} {t e : TypeId} {n : Nat} {v : Value} (ht : P.underlying t = some (.array n e)) (h : Value.okWide P W r b0 t v) : ∃ cs, v = .agg cs ∧ cs.size = P.cellsOf t := by
  simp only [Value.okWide, ht] at h
  obtain ⟨cs, h1, h2, _⟩ := h
  exact ⟨cs, h1, h2⟩
theorem array12 {α : Type} {cs : Array α} (h : cs.size = 12) : ∃ c0 c1 c2 c3 c4 c5 c6 c7 c8 c9 c10 c11, cs = #[c0, c1, c2, c3, c4, c5, c6, c7, c8, c9, c10, c11] := by
  obtain ⟨l⟩ := cs
  match l, h with
  | [c0, c1, c2, c3, c4, c5, c6, c7, c8, c9, c10, c11], _ => exact ⟨c0, c1, c2, c3, c4, c5, c6, c7, c8, c9, c10, c11, rfl⟩
section
variable {H : Type} {enc : TypeId × Value → H} {P : Program} {w : World} {base : Nat} {spare : Nat → Bool} {held : Bool}
theorem trod_array34 {t e : TypeId} {fuel : Nat} {c0 c1 c2 c3 c4 c5 c6 c7 c8 c9 c10 c11 : Value} {x : DataW H × List MemPlace} (ht : P.underlying t = some (.array 3 e)) (hce : P.cellsOf e = 4)
    (h : DataW.trod enc P w base spare held fuel t [c0, c1, c2, c3, c4, c5, c6, c7, c8, c9, c10, c11] = some x) :
    ∃ y0 y1 y2 n, DataW.trod enc P w base spare held n e [c0, c1, c2, c3] = some y0 ∧ DataW.trod enc P w base spare held n e [c4, c5, c6, c7] = some y1 ∧ DataW.trod enc P w base spare held n e [c8, c9, c10, c11] = some y2 := by
  cases fuel with
  | zero => simp [DataW.trod] at h
  | succ n =>
    unfold DataW.trod at h
    rw [ht] at h
    have r3 : List.range 3 = [0, 1, 2] := rfl
    simp [r3, hce] at h
    obtain ⟨_, h⟩ := h
    cases h0 : DataW.trod enc P w base spare held n e [c0, c1, c2, c3] with
    | none => simp [h0] at h
    | some y0 =>
      cases h1 : DataW.trod enc P w base spare held n e [c4, c5, c6, c7] with
      | none => simp [h0, h1] at h
      | some y1 =>
        cases h2 : DataW.trod enc P w base spare held n e [c8, c9, c10, c11] with
        | none => simp [h0, h1, h2] at h
        | some y2 => exact ⟨y0, y1, y2, n, h0, h1, h2⟩
theorem open_rec4 {t : TypeId} {f0 f1 f2 f3 : Field} {fuel : Nat} {c0 c1 c2 c3 : Value} {x : DataW H × List MemPlace} (hs : P.underlying t = some (.struct #[f0, f1, f2, f3])) (hone : oneCellFields P #[f0, f1, f2, f3] = true)
    (h : DataW.trod enc P w base spare held fuel t [c0, c1, c2, c3] = some x) :
    ∃ (y0 y1 y2 y3 : DataW H × List MemPlace) (n : Nat), DataW.trod enc P w base spare held n f0.type [c0] = some y0 ∧ DataW.trod enc P w base spare held n f1.type [c1] = some y1 ∧ DataW.trod enc P w base spare held n f2.type [c2] = some y2 ∧ DataW.trod enc P w base spare held n f3.type [c3] = some y3 := by
  obtain ⟨y0, y1, y2, y3, n, hx, _, h0, h1, h2, h3⟩ := trod_struct4 hs h
  obtain ⟨o0, k0⟩ := hone_of hone 0 f0 rfl
  obtain ⟨o1, k1⟩ := hone_of hone 1 f1 rfl
  obtain ⟨o2, k2⟩ := hone_of hone 2 f2 rfl
  obtain ⟨o3, k3⟩ := hone_of hone 3 f3 rfl
  exact ⟨y0, y1, y2, y3, n, by simpa [o0, k0] using h0, by simpa [o1, k1] using h1, by simpa [o2, k2] using h2, by simpa [o3, k3] using h3⟩
end
theorem open_record {H : Type} {enc : TypeId × Value → H} {W : World} {fuel : Nat} {c0 c1 c2 c3 : Value} {x : DataW H × List MemPlace} (h : DataW.trod enc Tryz.prog W 0 (fun _ => true) true fuel 25 [c0, c1, c2, c3] = some x) :
    ∃ (nm : ByteArray) (st : Int) (bs : List Nat) (gs : List (Int × Int)), c0 = .string nm ∧ c1 = .int .i64 st ∧ nm.size ≤ maxLen ∧ Rd W W.heap.size c2 bs.length (flc bs) ∧ Full c2 ∧ Rd W W.heap.size c3 gs.length (spc gs) ∧ Full c3 := by
  obtain ⟨y0, y1, y2, y3, n, hy0, hy1, hy2, hy3⟩ := open_rec4 Tryz.underlying25 (by kernel_rfl) h
  obtain ⟨nm, k0, -, hs⟩ := DataW.trod_string Tryz.underlying9 hy0
  obtain ⟨st, k1, -⟩ := DataW.trod_int Tryz.underlying3 hy1
  obtain ⟨bs, hl, fl⟩ := open_levels hy2
  obtain ⟨gs, hg, fg⟩ := open_gaps hy3
  simp at k0 k1
  exact ⟨nm, st, bs, gs, k0, k1, hs, hl, fl, hg, fg⟩
end Go.Proofs.YtbmeadlamjppgaaGreatDoor

namespace Go.Proofs.YtbmeadlamjppgaaGreatDoor
open Go.RowKit
attribute [local go_sem] Oper.semAt_some

def pk3 {α : Type} (a b c : α) : Nat → α
  | 0 => a
  | 1 => b
  | _ => c
theorem all3 {P : Nat → Prop} (h0 : P 0) (h1 : P 1) (h2 : P 2) : ∀ g, g < 3 → P g
  | 0, _ => h0
  | 1, _ => h1
  | 2, _ => h2
  | n + 3, h => absurd h (by omega)
theorem fst_snoc : ∀ (l : List Int) (x : Int), fst0 (l ++ [x]) = if fst0 l = 0 then x else fst0 l
  | [], x => by
    by_cases h : x = 0
    · subst h; rfl
    · simp [fst0, h]
  | a :: l, x => by
    have ih := fst_snoc l x
    by_cases h : a = 0
    · subst h; simpa [fst0] using ih
    · simp [fst0, h]
theorem sh_lensV {s n m : Nat} (h : shortR s n m = true) : n ≤ 4097 ∧ m ≤ 2049 := by
  unfold shortR at h
  simp only [Bool.and_eq_true, Bool.or_eq_true, decide_eq_true_eq] at h
  omega

set_option maxRecDepth 1000000 in
set_option maxHeartbeats 4000000 in
theorem votes_long (HA : Hid Awake) (nm0 nm1 nm2 : ByteArray) (st0 st1 st2 tol : Int) (A0 B0 A1 B1 A2 B2 : Option Addr) (c0 d0 c1 d1 c2 d2 : Nat) (bs0 bs1 bs2 : List Nat) (gs0 gs1 gs2 : List (Int × Int)) (w : World) (h : shortR nm0.size bs0.length gs0.length = false ∨ (shortR nm0.size bs0.length gs0.length = true ∧ shortR nm1.size bs1.length gs1.length = false) ∨ (shortR nm0.size bs0.length gs0.length = true ∧ shortR nm1.size bs1.length gs1.length = true ∧ shortR nm2.size bs2.length gs2.length = false)) :
    Calls Tryz.prog 3 #[.agg #[.string nm0, .int .i64 st0, .slice A0 bs0.length c0, .slice B0 gs0.length d0, .string nm1, .int .i64 st1, .slice A1 bs1.length c1, .slice B1 gs1.length d1, .string nm2, .int .i64 st2, .slice A2 bs2.length c2, .slice B2 gs2.length d2], .int .i64 tol] w fun e w' => e = .returned (.bool true) ∧ Below w.heap.size w w' := by
  have HQ := hd (show (w.alloc (Obj.cells #[.string nm0, .int .i64 st0, .slice A0 bs0.length c0, .slice B0 gs0.length d0, .string nm1, .int .i64 st1, .slice A1 bs1.length c1, .slice B1 gs1.length d1, .string nm2, .int .i64 st2, .slice A2 bs2.length c2, .slice B2 gs2.length d2] 26)).heap[w.heap.size]? = some (.cells #[.string nm0, .int .i64 st0, .slice A0 bs0.length c0, .slice B0 gs0.length d0, .string nm1, .int .i64 st1, .slice A1 bs1.length c1, .slice B1 gs1.length d1, .string nm2, .int .i64 st2, .slice A2 bs2.length c2, .slice B2 gs2.length d2] 26 (0, 0)) from blk_new _ _ _)
  have HB := hd ((Below.refl w.heap.size w).alloc (Nat.le_refl _) (Obj.cells #[.string nm0, .int .i64 st0, .slice A0 bs0.length c0, .slice B0 gs0.length d0, .string nm1, .int .i64 st1, .slice A1 bs1.length c1, .slice B1 gs1.length d1, .string nm2, .int .i64 st2, .slice A2 bs2.length c2, .slice B2 gs2.length d2] 26))
  rcases h with S0 | ⟨S0, S1⟩ | ⟨S0, S1, S2⟩
  · have T0 := hd S0
    clear S0
    go_enter Tryz.func3, Tryz.ntmps3
    go_wp2_with fail
    generalize (w.alloc (Obj.cells #[.string nm0, .int .i64 st0, .slice A0 bs0.length c0, .slice B0 gs0.length d0, .string nm1, .int .i64 st1, .slice A1 bs1.length c1, .slice B1 gs1.length d1, .string nm2, .int .i64 st2, .slice A2 bs2.length c2, .slice B2 gs2.length d2] 26)) = W1 at *
    refine (HA.out _).mono ?_
    rintro e z ⟨rfl, hb⟩
    replace HQ := hd ((hb.block _ (blk_lt HQ.out)).trans HQ.out)
    replace HB := hd (HB.out.trans (hb.mono HB.out.size))
    clear hb
    have hZ := cells12 HQ.out
    obtain ⟨k0, k1, k2, k3, k4, k5, k6, k7, k8, k9, k10, k11⟩ := hZ
    go_wp2_with fail
    refine (short_any nm0 st0 A0 B0 bs0.length c0 gs0.length d0 _).mono ?_
    rw [T0.out]
    rintro e z0 ⟨rfl, hb⟩
    replace HQ := hd ((hb.block _ (blk_lt HQ.out)).trans HQ.out)
    replace HB := hd (HB.out.trans (hb.mono HB.out.size))
    clear hb
    clear k0 k1 k2 k3 k4 k5 k6 k7 k8 k9 k10 k11
    go_wp2_with fail
    refine (HA.out _).mono ?_
    rintro e z9 ⟨rfl, hb⟩
    replace HQ := hd ((hb.block _ (blk_lt HQ.out)).trans HQ.out)
    replace HB := hd (HB.out.trans (hb.mono HB.out.size))
    clear hb
    go_wp2_with fail
    go_returns
    exact ⟨rfl, HB.out⟩
  · have T0 := hd S0
    clear S0
    have T1 := hd S1
    clear S1
    go_enter Tryz.func3, Tryz.ntmps3
    go_wp2_with fail
    generalize (w.alloc (Obj.cells #[.string nm0, .int .i64 st0, .slice A0 bs0.length c0, .slice B0 gs0.length d0, .string nm1, .int .i64 st1, .slice A1 bs1.length c1, .slice B1 gs1.length d1, .string nm2, .int .i64 st2, .slice A2 bs2.length c2, .slice B2 gs2.length d2] 26)) = W1 at *
    refine (HA.out _).mono ?_
    rintro e z ⟨rfl, hb⟩
    replace HQ := hd ((hb.block _ (blk_lt HQ.out)).trans HQ.out)
    replace HB := hd (HB.out.trans (hb.mono HB.out.size))
    clear hb
    have hZ := cells12 HQ.out
    obtain ⟨k0, k1, k2, k3, k4, k5, k6, k7, k8, k9, k10, k11⟩ := hZ
    go_wp2_with fail
    refine (short_any nm0 st0 A0 B0 bs0.length c0 gs0.length d0 _).mono ?_
    rw [T0.out]
    rintro e z0 ⟨rfl, hb⟩
    replace HQ := hd ((hb.block _ (blk_lt HQ.out)).trans HQ.out)
    replace HB := hd (HB.out.trans (hb.mono HB.out.size))
    clear hb
    clear k0 k1 k2 k3 k4 k5 k6 k7 k8 k9 k10 k11
    have hZ := cells12 HQ.out
    obtain ⟨k0, k1, k2, k3, k4, k5, k6, k7, k8, k9, k10, k11⟩ := hZ
    go_wp2_with fail
    refine (short_any nm1 st1 A1 B1 bs1.length c1 gs1.length d1 _).mono ?_
    rw [T1.out]
    rintro e z1 ⟨rfl, hb⟩
    replace HQ := hd ((hb.block _ (blk_lt HQ.out)).trans HQ.out)
    replace HB := hd (HB.out.trans (hb.mono HB.out.size))
    clear hb
    clear k0 k1 k2 k3 k4 k5 k6 k7 k8 k9 k10 k11
    go_wp2_with fail
    refine (HA.out _).mono ?_
    rintro e z9 ⟨rfl, hb⟩
    replace HQ := hd ((hb.block _ (blk_lt HQ.out)).trans HQ.out)
    replace HB := hd (HB.out.trans (hb.mono HB.out.size))
    clear hb
    go_wp2_with fail
    go_returns
    exact ⟨rfl, HB.out⟩
  · have T0 := hd S0
    clear S0
    have T1 := hd S1
    clear S1
    have T2 := hd S2
    clear S2
    go_enter Tryz.func3, Tryz.ntmps3
    go_wp2_with fail
    generalize (w.alloc (Obj.cells #[.string nm0, .int .i64 st0, .slice A0 bs0.length c0, .slice B0 gs0.length d0, .string nm1, .int .i64 st1, .slice A1 bs1.length c1, .slice B1 gs1.length d1, .string nm2, .int .i64 st2, .slice A2 bs2.length c2, .slice B2 gs2.length d2] 26)) = W1 at *
    refine (HA.out _).mono ?_
    rintro e z ⟨rfl, hb⟩
    replace HQ := hd ((hb.block _ (blk_lt HQ.out)).trans HQ.out)
    replace HB := hd (HB.out.trans (hb.mono HB.out.size))
    clear hb
    have hZ := cells12 HQ.out
    obtain ⟨k0, k1, k2, k3, k4, k5, k6, k7, k8, k9, k10, k11⟩ := hZ
    go_wp2_with fail
    refine (short_any nm0 st0 A0 B0 bs0.length c0 gs0.length d0 _).mono ?_
    rw [T0.out]
    rintro e z0 ⟨rfl, hb⟩
    replace HQ := hd ((hb.block _ (blk_lt HQ.out)).trans HQ.out)
    replace HB := hd (HB.out.trans (hb.mono HB.out.size))
    clear hb
    clear k0 k1 k2 k3 k4 k5 k6 k7 k8 k9 k10 k11
    have hZ := cells12 HQ.out
    obtain ⟨k0, k1, k2, k3, k4, k5, k6, k7, k8, k9, k10, k11⟩ := hZ
    go_wp2_with fail
    refine (short_any nm1 st1 A1 B1 bs1.length c1 gs1.length d1 _).mono ?_
    rw [T1.out]
    rintro e z1 ⟨rfl, hb⟩
    replace HQ := hd ((hb.block _ (blk_lt HQ.out)).trans HQ.out)
    replace HB := hd (HB.out.trans (hb.mono HB.out.size))
    clear hb
    clear k0 k1 k2 k3 k4 k5 k6 k7 k8 k9 k10 k11
    have hZ := cells12 HQ.out
    obtain ⟨k0, k1, k2, k3, k4, k5, k6, k7, k8, k9, k10, k11⟩ := hZ
    go_wp2_with fail
    refine (short_any nm2 st2 A2 B2 bs2.length c2 gs2.length d2 _).mono ?_
    rw [T2.out]
    rintro e z2 ⟨rfl, hb⟩
    replace HQ := hd ((hb.block _ (blk_lt HQ.out)).trans HQ.out)
    replace HB := hd (HB.out.trans (hb.mono HB.out.size))
    clear hb
    clear k0 k1 k2 k3 k4 k5 k6 k7 k8 k9 k10 k11
    go_wp2_with fail
    refine (HA.out _).mono ?_
    rintro e z9 ⟨rfl, hb⟩
    replace HQ := hd ((hb.block _ (blk_lt HQ.out)).trans HQ.out)
    replace HB := hd (HB.out.trans (hb.mono HB.out.size))
    clear hb
    go_wp2_with fail
    go_returns
    exact ⟨rfl, HB.out⟩

set_option maxHeartbeats 4000000 in
theorem votes_all (HA : Hid Awake) (nm0 nm1 nm2 : ByteArray) (st0 st1 st2 tol : Int) (lv0 gv0 lv1 gv1 lv2 gv2 : Value) (bs0 bs1 bs2 : List Nat) (gs0 gs1 gs2 : List (Int × Int)) (w : World) (hl0 : Rd w w.heap.size lv0 bs0.length (flc bs0)) (hg0 : Rd w w.heap.size gv0 gs0.length (spc gs0)) (fl0 : Full lv0) (fg0 : Full gv0) (hs0 : nm0.size ≤ maxLen) (hl1 : Rd w w.heap.size lv1 bs1.length (flc bs1)) (hg1 : Rd w w.heap.size gv1 gs1.length (spc gs1)) (fl1 : Full lv1) (fg1 : Full gv1) (hs1 : nm1.size ≤ maxLen) (hl2 : Rd w w.heap.size lv2 bs2.length (flc bs2)) (hg2 : Rd w w.heap.size gv2 gs2.length (spc gs2)) (fl2 : Full lv2) (fg2 : Full gv2) (hs2 : nm2.size ≤ maxLen) :
    Calls Tryz.prog 3 #[.agg #[.string nm0, .int .i64 st0, lv0, gv0, .string nm1, .int .i64 st1, lv1, gv1, .string nm2, .int .i64 st2, lv2, gv2], .int .i64 tol] w fun e w' => e = .returned (.bool true) ∧ Below w.heap.size w w' := by
  obtain ⟨A0, c0, rfl, -⟩ := id hl0
  obtain ⟨B0, d0, rfl, -⟩ := id hg0
  obtain ⟨A1, c1, rfl, -⟩ := id hl1
  obtain ⟨B1, d1, rfl, -⟩ := id hg1
  obtain ⟨A2, c2, rfl, -⟩ := id hl2
  obtain ⟨B2, d2, rfl, -⟩ := id hg2
  cases S0 : shortR nm0.size bs0.length gs0.length
  · exact votes_long HA nm0 nm1 nm2 st0 st1 st2 tol A0 B0 A1 B1 A2 B2 c0 d0 c1 d1 c2 d2 bs0 bs1 bs2 gs0 gs1 gs2 w (.inl S0)
  · cases S1 : shortR nm1.size bs1.length gs1.length
    · exact votes_long HA nm0 nm1 nm2 st0 st1 st2 tol A0 B0 A1 B1 A2 B2 c0 d0 c1 d1 c2 d2 bs0 bs1 bs2 gs0 gs1 gs2 w (.inr (.inl ⟨S0, S1⟩))
    · cases S2 : shortR nm2.size bs2.length gs2.length
      · exact votes_long HA nm0 nm1 nm2 st0 st1 st2 tol A0 B0 A1 B1 A2 B2 c0 d0 c1 d1 c2 d2 bs0 bs1 bs2 gs0 gs1 gs2 w (.inr (.inr ⟨S0, S1, S2⟩))
      · have hn0 := sh_lensV S0
        have hn1 := sh_lensV S1
        have hn2 := sh_lensV S2
        have CR0 := hd (fun (W : World) (lv gv : Value) (h : Rd W W.heap.size lv bs0.length (flc bs0)) (h' : Rd W W.heap.size gv gs0.length (spc gs0)) => refRec_any nm0 st0 lv gv bs0 gs0 W h h' hs0)
        have HN0 := hd (show bs0.length ≤ 100000 ∧ gs0.length ≤ 100000 by omega)
        have CR1 := hd (fun (W : World) (lv gv : Value) (h : Rd W W.heap.size lv bs1.length (flc bs1)) (h' : Rd W W.heap.size gv gs1.length (spc gs1)) => refRec_any nm1 st1 lv gv bs1 gs1 W h h' hs1)
        have HN1 := hd (show bs1.length ≤ 100000 ∧ gs1.length ≤ 100000 by omega)
        have CR2 := hd (fun (W : World) (lv gv : Value) (h : Rd W W.heap.size lv bs2.length (flc bs2)) (h' : Rd W W.heap.size gv gs2.length (spc gs2)) => refRec_any nm2 st2 lv gv bs2 gs2 W h h' hs2)
        have HN2 := hd (show bs2.length ≤ 100000 ∧ gs2.length ≤ 100000 by omega)
        have hfive : fst0 [chkRec nm0 st0 bs0 gs0, chkRec nm1 st1 bs1 gs1, chkRec nm2 st2 bs2 gs2, rng tol 0 2048, unl ((decide (st0 = st1) && decide (bs0.length = bs1.length)) && (decide (st0 = st2) && decide (bs0.length = bs2.length))) 2] = if fst0 [chkRec nm0 st0 bs0 gs0, chkRec nm1 st1 bs1 gs1, chkRec nm2 st2 bs2 gs2, rng tol 0 2048] = 0 then unl ((decide (st0 = st1) && decide (bs0.length = bs1.length)) && (decide (st0 = st2) && decide (bs0.length = bs2.length))) 2 else fst0 [chkRec nm0 st0 bs0 gs0, chkRec nm1 st1 bs1 gs1, chkRec nm2 st2 bs2 gs2, rng tol 0 2048] := fst_snoc [chkRec nm0 st0 bs0 gs0, chkRec nm1 st1 bs1 gs1, chkRec nm2 st2 bs2 gs2, rng tol 0 2048] (unl ((decide (st0 = st1) && decide (bs0.length = bs1.length)) && (decide (st0 = st2) && decide (bs0.length = bs2.length))) 2)
        have GB : ∀ E, fst0 [chkRec nm0 st0 bs0 gs0, chkRec nm1 st1 bs1 gs1, chkRec nm2 st2 bs2 gs2, rng tol 0 2048, unl ((decide (st0 = st1) && decide (bs0.length = bs1.length)) && (decide (st0 = st2) && decide (bs0.length = bs2.length))) 2] = E → (E != 0) = true → Hid (∀ (W : World) (u0 v0 u1 v1 u2 v2 : Value), Rd W W.heap.size u0 bs0.length (flc bs0) → Rd W W.heap.size v0 gs0.length (spc gs0) → Rd W W.heap.size u1 bs1.length (flc bs1) → Rd W W.heap.size v1 gs1.length (spc gs1) → Rd W W.heap.size u2 bs2.length (flc bs2) → Rd W W.heap.size v2 gs2.length (spc gs2) → Full u0 → Full u1 → Full u2 → Calls Tryz.prog 9 #[.agg #[.string nm0, .int .i64 st0, u0, v0, .string nm1, .int .i64 st1, u1, v1, .string nm2, .int .i64 st2, u2, v2], .int .i64 tol] W (fun e w' => e = .returned (.tuple #[.agg #[.string ⟨#[]⟩, .int .i64 0, .slice none 0 0, .slice none 0 0], .agg #[.int .i64 0, .int .i64 0, .int .i64 0], .int .i64 E]) ∧ Below W.heap.size W w')) := fun E hE h0 => hd (fun W u0 v0 u1 v1 u2 v2 r0 q0 r1 q1 r2 q2 _ _ _ => by
          obtain ⟨A0, c0, rfl, -⟩ := id r0
          obtain ⟨B0, d0, rfl, -⟩ := id q0
          obtain ⟨A1, c1, rfl, -⟩ := id r1
          obtain ⟨B1, d1, rfl, -⟩ := id q1
          obtain ⟨A2, c2, rfl, -⟩ := id r2
          obtain ⟨B2, d2, rfl, -⟩ := id q2
          exact vote_bad nm0 nm1 nm2 st0 st1 st2 A0 B0 A1 B1 A2 B2 c0 d0 c1 d1 c2 d2 bs0 bs1 bs2 gs0 gs1 gs2 tol E W (hd r0) (hd q0) hs0 (hd r1) (hd q1) hs1 (hd r2) (hd q2) hs2 hE h0)
        by_cases hE : fst0 [chkRec nm0 st0 bs0 gs0, chkRec nm1 st1 bs1 gs1, chkRec nm2 st2 bs2 gs2, rng tol 0 2048] = 0
        · rw [if_pos hE] at hfive
          by_cases hS : (st1 = st0 ∧ bs1.length = bs0.length) ∧ (st2 = st0 ∧ bs2.length = bs0.length)
          · obtain ⟨⟨s1, l1⟩, s2, l2⟩ := hS
            have e0 : chkRec nm0 st0 bs0 gs0 = 0 := fst0_each hE 0 (by simp)
            have e1 : chkRec nm1 st1 bs1 gs1 = 0 := fst0_each hE 1 (by simp)
            have e2 : chkRec nm2 st2 bs2 gs2 = 0 := fst0_each hE 2 (by simp)
            have e3 : rng tol 0 2048 = 0 := fst0_each hE 3 (by simp)
            have ht : 0 ≤ tol ∧ tol ≤ 2048 := by
              unfold rng at e3
              split at e3
              · assumption
              · cases e3
            obtain ⟨V0, C0, Q0⟩ := valid_of e0 hs0
            obtain ⟨V1, C1, Q1⟩ := valid_of e1 hs1
            obtain ⟨V2, C2, Q2⟩ := valid_of e2 hs2
            have Q1' : ∀ j, j < bs0.length → chkLev (bs1.getD j 0) = 0 := fun j hj => Q1 j (by omega)
            have Q2' : ∀ j, j < bs0.length → chkLev (bs2.getD j 0) = 0 := fun j hj => Q2 j (by omega)
            have HBO : Both (pk3 bs0 bs1 bs2) (pk3 gs0 gs1 gs2) bs0.length := ⟨all3 (P := fun g => ((pk3 bs0 bs1 bs2) g).length = bs0.length) rfl l1 l2, all3 (P := fun g => Can ((pk3 gs0 gs1 gs2) g)) C0 C1 C2, all3 (P := fun g => ∀ j, j < bs0.length → chkLev (((pk3 bs0 bs1 bs2) g).getD j 0) = 0) Q0 Q1' Q2'⟩
            have n0 := HBO.cnt tol (g := 0) (by omega) bs0.length (Nat.le_refl _)
            have n1 := HBO.cnt tol (g := 1) (by omega) bs0.length (Nat.le_refl _)
            have n2 := HBO.cnt tol (g := 2) (by omega) bs0.length (Nat.le_refl _)
            have GA := hd (fun (W : World) (u0 v0 u1 v1 u2 v2 : Value) (r0 : Rd W W.heap.size u0 bs0.length (flc bs0)) (q0 : Rd W W.heap.size v0 gs0.length (spc gs0)) (r1 : Rd W W.heap.size u1 bs1.length (flc bs1)) (q1 : Rd W W.heap.size v1 gs1.length (spc gs1)) (r2 : Rd W W.heap.size u2 bs2.length (flc bs2)) (q2 : Rd W W.heap.size v2 gs2.length (spc gs2)) (_ : Full u0) (_ : Full u1) (_ : Full u2) => show Calls Tryz.prog 9 #[.agg #[.string nm0, .int .i64 st0, u0, v0, .string nm1, .int .i64 st1, u1, v1, .string nm2, .int .i64 st2, u2, v2], .int .i64 tol] W (GotV nm0 st0 (vCnt (balF (pk3 bs0 bs1 bs2) (pk3 gs0 gs1 gs2) 3) tol 0 bs0.length) (vCnt (balF (pk3 bs0 bs1 bs2) (pk3 gs0 gs1 gs2) 3) tol 1 bs0.length) (vCnt (balF (pk3 bs0 bs1 bs2) (pk3 gs0 gs1 gs2) 3) tol 2 bs0.length) (asmK (vLev (balF (pk3 bs0 bs1 bs2) (pk3 gs0 gs1 gs2) 3) tol bs0.length bs0.length) (vMrk (balF (pk3 bs0 bs1 bs2) (pk3 gs0 gs1 gs2) 3) tol bs0.length bs0.length) bs0.length) (strF ((rMrk (pk3 bs0 bs1 bs2) (pk3 gs0 gs1 gs2) tol bs0.length bs0.length).map (!·)) bs0.length) W) from by
              have h := vote_any (pk3 nm0 nm1 nm2) (pk3 st0 st1 st2) (pk3 u0 u1 u2) (pk3 v0 v1 v2) (pk3 bs0 bs1 bs2) (pk3 gs0 gs1 gs2) tol W (all3 (P := fun g => Rd W W.heap.size (pk3 u0 u1 u2 g) ((pk3 bs0 bs1 bs2) g).length (flc ((pk3 bs0 bs1 bs2) g))) r0 r1 r2) (all3 (P := fun g => Rd W W.heap.size (pk3 v0 v1 v2 g) ((pk3 gs0 gs1 gs2) g).length (spc ((pk3 gs0 gs1 gs2) g))) q0 q1 q2) (all3 (P := fun g => Valid (pk3 nm0 nm1 nm2 g) (pk3 st0 st1 st2 g) ((pk3 bs0 bs1 bs2) g) ((pk3 gs0 gs1 gs2) g)) V0 V1 V2) (all3 (P := fun g => ((pk3 bs0 bs1 bs2) g).length = ((pk3 bs0 bs1 bs2) 0).length) rfl l1 l2) (all3 (P := fun g => pk3 st0 st1 st2 g = pk3 st0 st1 st2 0) rfl s1 s2) ht
              refine Calls.mono h ?_
              rintro e w' ⟨lv', gv', rfl, p1, p2, hb⟩
              refine ⟨lv', gv', rfl, ?_, ?_, hb⟩
              · rw [asmK_len, vLev_len]; exact p1
              · rw [← HBO.mrk tol, ← misK_not _ _ (vMrk_len _ _ _ _)]; exact p2)
            have RA := hd (fun (W : World) (r0 : Rd W W.heap.size (.slice A0 bs0.length c0) bs0.length (flc bs0)) (q0 : Rd W W.heap.size (.slice B0 gs0.length d0) gs0.length (spc gs0)) (r1 : Rd W W.heap.size (.slice A1 bs1.length c1) bs1.length (flc bs1)) (q1 : Rd W W.heap.size (.slice B1 gs1.length d1) gs1.length (spc gs1)) (r2 : Rd W W.heap.size (.slice A2 bs2.length c2) bs2.length (flc bs2)) (q2 : Rd W W.heap.size (.slice B2 gs2.length d2) gs2.length (spc gs2)) => show Calls Tryz.prog 14 #[.agg #[.string nm0, .int .i64 st0, .slice A0 bs0.length c0, .slice B0 gs0.length d0, .string nm1, .int .i64 st1, .slice A1 bs1.length c1, .slice B1 gs1.length d1, .string nm2, .int .i64 st2, .slice A2 bs2.length c2, .slice B2 gs2.length d2], .int .i64 tol] W (GotW nm0 st0 (vCnt (balF (pk3 bs0 bs1 bs2) (pk3 gs0 gs1 gs2) 3) tol 0 bs0.length) (vCnt (balF (pk3 bs0 bs1 bs2) (pk3 gs0 gs1 gs2) 3) tol 1 bs0.length) (vCnt (balF (pk3 bs0 bs1 bs2) (pk3 gs0 gs1 gs2) 3) tol 2 bs0.length) (asmK (rLev (pk3 bs0 bs1 bs2) (pk3 gs0 gs1 gs2) tol bs0.length bs0.length) (rMrk (pk3 bs0 bs1 bs2) (pk3 gs0 gs1 gs2) tol bs0.length bs0.length) bs0.length) (strF ((rMrk (pk3 bs0 bs1 bs2) (pk3 gs0 gs1 gs2) tol bs0.length bs0.length).map (!·)) bs0.length) W) from by
              have h := refVote_any (pk3 nm0 nm1 nm2) (pk3 st0 st1 st2) (pk3 (Value.slice A0 bs0.length c0) (Value.slice A1 bs1.length c1) (Value.slice A2 bs2.length c2)) (pk3 (Value.slice B0 gs0.length d0) (Value.slice B1 gs1.length d1) (Value.slice B2 gs2.length d2)) (pk3 bs0 bs1 bs2) (pk3 gs0 gs1 gs2) tol W (all3 (P := fun g => Rd W W.heap.size ((pk3 (Value.slice A0 bs0.length c0) (Value.slice A1 bs1.length c1) (Value.slice A2 bs2.length c2)) g) ((pk3 bs0 bs1 bs2) g).length (flc ((pk3 bs0 bs1 bs2) g))) r0 r1 r2) (all3 (P := fun g => Rd W W.heap.size ((pk3 (Value.slice B0 gs0.length d0) (Value.slice B1 gs1.length d1) (Value.slice B2 gs2.length d2)) g) ((pk3 gs0 gs1 gs2) g).length (spc ((pk3 gs0 gs1 gs2) g))) q0 q1 q2) (all3 (P := fun g => ∀ i, i < ((pk3 bs0 bs1 bs2) 0).length → chkLev (((pk3 bs0 bs1 bs2) g).getD i 0) = 0) Q0 Q1' Q2') (all3 (P := fun g => ((pk3 bs0 bs1 bs2) g).length = ((pk3 bs0 bs1 bs2) 0).length) rfl l1 l2) V0.most ht
              refine Calls.mono h ?_
              rintro e w' ⟨lv', gv', rfl, p1, p2, hb⟩
              refine ⟨lv', gv', ?_, ?_, p2, hb⟩
              · rw [n0, n1, n2]; rfl
              · rw [asmK_len, rLev_len]; exact p1)
            exact votes_ok HA nm0 nm1 nm2 st0 st1 st2 tol A0 B0 A1 B1 A2 B2 c0 d0 c1 d1 c2 d2 bs0 bs1 bs2 _ _ gs0 gs1 gs2 _ _ _ _ 0 _ _ _ w (hd hl0) (hd hg0) (hd fl0) (hd fg0) (hd S0) HN0 (hd hl1) (hd hg1) (hd fl1) (hd fg1) (hd S1) HN1 (hd hl2) (hd hg2) (hd fl2) (hd fg2) (hd S2) HN2 CR0 CR1 CR2 (hd hE) rfl GA (hd ⟨⟨s1, l1⟩, s2, l2⟩) RA (hd (HBO.levs tol))
          · have h2 : unl ((decide (st0 = st1) && decide (bs0.length = bs1.length)) && (decide (st0 = st2) && decide (bs0.length = bs2.length))) 2 = 2 := by
              unfold unl
              rw [if_neg]
              simp only [Bool.and_eq_true, decide_eq_true_eq]
              rintro ⟨⟨a1, a2⟩, a3, a4⟩
              exact hS ⟨⟨a1.symm, a2.symm⟩, a3.symm, a4.symm⟩
            exact votes_b2 HA nm0 nm1 nm2 st0 st1 st2 tol A0 B0 A1 B1 A2 B2 c0 d0 c1 d1 c2 d2 bs0 bs1 bs2 gs0 gs1 gs2 _ _ _ 0 w (hd hl0) (hd hg0) (hd fl0) (hd fg0) (hd S0) HN0 (hd hl1) (hd hg1) (hd fl1) (hd fg1) (hd S1) HN1 (hd hl2) (hd hg2) (hd fl2) (hd fg2) (hd S2) HN2 CR0 CR1 CR2 (hd hE) rfl (GB 2 (hfive.trans h2) rfl) (hd hS)
        · rw [if_neg hE] at hfive
          have h0 : (fst0 [chkRec nm0 st0 bs0 gs0, chkRec nm1 st1 bs1 gs1, chkRec nm2 st2 bs2 gs2, rng tol 0 2048] != 0) = true := by simpa using hE
          exact votes_b1 HA nm0 nm1 nm2 st0 st1 st2 tol A0 B0 A1 B1 A2 B2 c0 d0 c1 d1 c2 d2 bs0 bs1 bs2 gs0 gs1 gs2 _ _ _ _ w (hd hl0) (hd hg0) (hd fl0) (hd fg0) (hd S0) HN0 (hd hl1) (hd hg1) (hd fl1) (hd fg1) (hd S1) HN1 (hd hl2) (hd hg2) (hd fl2) (hd fg2) (hd S2) HN2 CR0 CR1 CR2 (hd rfl) (by simpa using hE) (GB _ hfive h0) h0
end Go.Proofs.YtbmeadlamjppgaaGreatDoor

namespace Go.Proofs.YtbmeadlamjppgaaGreatDoor
open Go Go.ChangeShapes Go.WideShapes Go.ChangeAt Go.RowKit Go.Joins
open Go.ChangeMaps (open_string)
set_option linter.constructorNameAsVariable false

set_option maxRecDepth 1000000 in
/-- The start that the door's own run leaves meets the row's condition on the listed variables. -/
theorem gaugeVotes_met (os : Os) (args : Array Value) : laidMetH Tryz.prog Rows.gaugeVotesRow.laid ((World.doorLaid Tryz.prog 24 os).forCall (fun _ _ => 0) ⟨#[], args, []⟩).memory :=
  laidMetH_of_parts3 (fuel := 8) (laidMet_of_run' 8 (by kernel_rfl) (by kernel_rfl)) (by kernel_rfl) (by kernel_rfl)

set_option maxRecDepth 1000000 in
theorem gaugeVotes_lifted (os : Os) (started : os.Started) (H : Type) (enc : TypeId × Value → H) :
    ReturnsInHanded {} Tryz.checked os 3 .any (fun w args => (Rows.gaugeVotesSpec.pre enc Tryz.prog Tryz.f3 [] false w args ∧ laidMetH Tryz.prog Rows.gaugeVotesRow.laid w) ∧ sizedMet enc Tryz.prog Tryz.f3 (OpenSpec.ofChange Rows.gaugeVotesSpec) false w args)
      (Rows.gaugeVotesSpec.post enc Tryz.prog Tryz.f3 false true false false) := by
  refine returnsInHanded_of_change_and (C := Tryz.checked) (X := fun w _ => laidMetH Tryz.prog Rows.gaugeVotesRow.laid w) (fun _ _ _ hh h => h.of_heap hh) own started (by kernel_rfl) Tryz.func3
    (ChangeSpec.witness_shaped (enc := enc) (C := Tryz.checked) (os := os) (X := fun w _ => laidMetH Tryz.prog Rows.gaugeVotesRow.laid w) false (World.doorLaid Tryz.prog 24 os) #[.agg #[.string ⟨#[]⟩, .int .i64 0, .slice none 0 0, .slice none 0 0, .string ⟨#[]⟩, .int .i64 0, .slice none 0 0, .slice none 0 0, .string ⟨#[]⟩, .int .i64 0, .slice none 0 0, .slice none 0 0], .int .i64 0] 8 rfl (World.shaped_of_RefB (by kernel_rfl) (by kernel_rfl)) (by kernel_rfl) (by kernel_rfl) (by kernel_rfl) (gaugeVotes_met os _)) ?_
  intro W base args ds gs before hval0 hW _ hsz hL _
  have hval : ∀ (j : Nat) t v, Tryz.f3.params[j]? = some t → args[j]? = some v → Value.okWide Tryz.prog W .any base t v := hval0
  have hW' := hW
  obtain ⟨p, q, hA0, hV, rfl, hfz, hnd⟩ := hW
  have hA : DataW.TrodAll enc Tryz.prog W 0 (fun _ => true) true Tryz.f3.params.toList args.toList ds p := hA0
  rw [Tryz.params3] at hA hval
  obtain ⟨rfl, rfl⟩ := trodVars_none hV
  obtain ⟨v0, v1, d0, d1, p0, p1, rfl, rfl, rfl, h0, h1⟩ := trodAll_two hA
  obtain ⟨cs, rfl, hcs⟩ := okWide_arrA Tryz.underlying26 (hval 0 26 v0 rfl rfl)
  obtain ⟨x0, x1, x2, x3, x4, x5, x6, x7, x8, x9, x10, x11, rfl⟩ := array12 (hcs.trans (show Tryz.prog.cellsOf 26 = 12 by kernel_rfl))
  obtain ⟨fuel, hf⟩ := h0
  obtain ⟨y0, y1, y2, n, g0, g1, g2⟩ := trod_array34 Tryz.underlying26 (by kernel_rfl) (show DataW.trod enc Tryz.prog W 0 (fun _ => true) true fuel 26 [x0, x1, x2, x3, x4, x5, x6, x7, x8, x9, x10, x11] = some (d0, p0) from hf)
  obtain ⟨nm0, st0, bs0, gs0, rfl, rfl, hs0, hl0, fl0, hg0, fg0⟩ := open_record g0
  obtain ⟨nm1, st1, bs1, gs1, rfl, rfl, hs1, hl1, fl1, hg1, fg1⟩ := open_record g1
  obtain ⟨nm2, st2, bs2, gs2, rfl, rfl, hs2, hl2, fl2, hg2, fg2⟩ := open_record g2
  obtain ⟨tol, rfl, rfl, rfl, -⟩ := open_int Tryz.underlying3 (hval 1 3 v1 rfl rfl) h1
  refine (votes_all (hd awake_any) nm0 nm1 nm2 st0 st1 st2 tol x2 x3 x6 x7 x10 x11 bs0 bs1 bs2 gs0 gs1 gs2 W hl0 hg0 fl0 fg0 hs0 hl1 hg1 fl1 fg1 hs1 hl2 hg2 fl2 fg2 hs2).mono ?_
  rintro e W' ⟨rfl, hB⟩
  exact ⟨_, rfl, law_post rfl rfl rfl rfl rfl (fun t ht => by
    have hm : t ∈ [26, 3] := by simpa [Tryz.params3] using ht
    have hall : ([26, 3].all fun u => Tryz.prog.readableRec u && decide (u < Tryz.prog.types.size)) = true := by kernel_rfl
    simpa using List.all_eq_true.1 hall t hm) hW' hB⟩

set_option maxRecDepth 1000000 in
theorem gaugeVotes_holds : Rows.GaugeVotesSaid :=
  OpenClaim.holds_of_wide 3 Tryz.f3 rfl rfl rfl rfl rfl rfl rfl ⟨rfl, rfl, rfl, rfl, rfl⟩ rfl rfl rfl rfl rfl (by kernel_rfl) Tryz.func3 (by kernel_rfl)
    (of_decide_eq_true (by kernel_rfl)) (by unfold Func.isWrapper; first | (rw [if_pos (by decide +kernel)]; kernel_rfl) | (rw [if_neg (by decide +kernel)]; exact ⟨rfl, rfl⟩))
    (fun os started H enc _ => gaugeVotes_lifted os started H enc)

set_option maxRecDepth 1000000 in
theorem gaugeVotes_card : Rows.GaugeVotesCardSaid :=
  Claim7.holds_tied_plain_at .later [] [.data, .data, .data] true (true, "a2ac7721fc906230f79feafd50f46457db167e4d414d7038bf9df98469f3c56c") false
    gaugeVotes_holds (fun _ h => by cases h) (by kernel_rfl) (fun _ h => by cases h) gaugeVotes_row_tie rfl ⟨rfl, rfl⟩ (by kernel_rfl) rfl
    (fun f fn hf hfn => by
      obtain rfl : f = 3 := Option.some.inj ((show Tryz.prog.funcNamed "tideway/tidewaylaw01.GaugeVotes" = some 3 by kernel_rfl).symm.trans hf) |>.symm
      obtain rfl : fn = Tryz.f3 := (Option.some.inj (Tryz.func3.symm.trans hfn)).symm
      exact ⟨by kernel_rfl, fun j t ht => by
        rw [Tryz.params3] at ht
        have hm : t ∈ [26, 3] := by simpa using Array.mem_of_getElem? ht
        have hall : ([26, 3].all fun u => !Tryz.prog.wantsStandIn u) = true := by kernel_rfl
        exact (show Tryz.prog.wantsStandIn t = false by simpa using List.all_eq_true.1 hall t hm)⟩)
    (by kernel_rfl)
end Go.Proofs.YtbmeadlamjppgaaGreatDoor
