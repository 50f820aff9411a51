/-
  GaugeSets at inputs of which it asks nothing: too many spans, or a list that is not canonical.
-/
import Derived.Test.YtmcgkpfbehlpcaaGreatDoorProg
import Derived.Test.YtmcgkpfbehlpcaaGreatDoorH2
import Derived.Test.YtmcgkpfbehlpcaaGreatDoorAw
namespace Go.Proofs.YtmcgkpfbehlpcaaGreatDoor
open Go.RowKit
attribute [local go_sem] Oper.semAt_some

set_option maxRecDepth 1000000 in
set_option maxHeartbeats 4000000 in
theorem sets_many (HA : Hid Awake) (A1 A2 : Option Addr) (n1 c1 n2 c2 : Nat) (t : Int) (w : World) (h : 12 < n1 ∨ 12 < n2) :
    Calls Tryz.prog 5 #[.slice A1 n1 c1, .slice A2 n2 c2, .int .u16 t] w fun e w' => e = .returned (.bool true) ∧ Below w.heap.size w w' := by
  have HB := hd (Below.refl w.heap.size w)
  by_cases h1 : 12 < n1
  · have h1' : ¬ (n1 : Int) ≤ 12 := by omega
    clear h
    go_enter Tryz.func5, Tryz.ntmps5
    go_wp2_with fail
    refine (HA.out _).mono ?_
    rintro e w1 ⟨rfl, hb⟩
    replace HB := hd (HB.out.trans (hb.mono (HB.out.size)))
    clear hb
    go_wp2_with fail
    refine (HA.out _).mono ?_
    rintro e w2 ⟨rfl, hb⟩
    replace HB := hd (HB.out.trans (hb.mono (HB.out.size)))
    clear hb
    go_wp2_with fail
    go_returns
    exact ⟨rfl, HB.out⟩
  · have h1' : (n1 : Int) ≤ 12 := by omega
    have h2' : ¬ (n2 : Int) ≤ 12 := by omega
    clear h
    go_enter Tryz.func5, Tryz.ntmps5
    go_wp2_with fail
    refine (HA.out _).mono ?_
    rintro e w1 ⟨rfl, hb⟩
    replace HB := hd (HB.out.trans (hb.mono (HB.out.size)))
    clear hb
    go_wp2_with fail
    refine (HA.out _).mono ?_
    rintro e w2 ⟨rfl, hb⟩
    replace HB := hd (HB.out.trans (hb.mono (HB.out.size)))
    clear hb
    go_wp2_with fail
    go_returns
    exact ⟨rfl, HB.out⟩

set_option maxRecDepth 1000000 in
set_option maxHeartbeats 4000000 in
theorem sets_bad (HA : Hid Awake) (sa sb : Value) (a b : List (Int × Int)) (t : Int) (w : World) (ha : Rd w w.heap.size sa a.length (spc a)) (hb : Rd w w.heap.size sb b.length (spc b)) (hn1 : a.length ≤ 12) (hn2 : b.length ≤ 12) (h : ¬ chkSpans a = 0 ∨ ¬ chkSpans b = 0) :
    Calls Tryz.prog 5 #[sa, sb, .int .u16 t] w fun e w' => e = .returned (.bool true) ∧ Below w.heap.size w w' := by
  have HB := hd (Below.refl w.heap.size w)
  have RA := hd ha
  have RB := hd hb
  obtain ⟨A1, c1, rfl, -⟩ := ha
  obtain ⟨A2, c2, rfl, -⟩ := hb
  have h1' : (a.length : Int) ≤ 12 := by omega
  have h2' : (b.length : Int) ≤ 12 := by omega
  by_cases h1 : chkSpans a = 0
  · have h2 : ¬ chkSpans b = 0 := by rcases h with h | h; exact absurd h1 h; exact h
    have HCa := hd h1
    have hcb : (chkSpans b != 0) = true := by rw [bne_iff_ne]; exact h2
    clear h h1 h2
    generalize hx : chkSpans b = x at hcb
    have HX := hd hx
    clear hx
    go_enter Tryz.func5, Tryz.ntmps5
    go_wp2_with fail
    refine (HA.out _).mono ?_
    rintro e w1 ⟨rfl, hb⟩
    replace HB := hd (HB.out.trans (hb.mono (HB.out.size)))
    replace RA := hd ((RA.out.below hb (Nat.le_refl _)).mono hb.size)
    replace RB := hd ((RB.out.below hb (Nat.le_refl _)).mono hb.size)
    clear hb
    go_wp2_with fail
    refine (refChkSpans_any _ a _ RA.out).mono ?_
    rw [HCa.out]
    rintro e w2 ⟨rfl, hb⟩
    replace HB := hd (HB.out.trans (hb.mono (HB.out.size)))
    replace RB := hd ((RB.out.below hb (Nat.le_refl _)).mono hb.size)
    clear hb
    go_wp2_with fail
    refine (refChkSpans_any _ b _ RB.out).mono ?_
    rw [HX.out]
    rintro e w3 ⟨rfl, hb⟩
    replace HB := hd (HB.out.trans (hb.mono (HB.out.size)))
    clear hb
    go_wp2_with fail
    refine (HA.out _).mono ?_
    rintro e w4 ⟨rfl, hb⟩
    replace HB := hd (HB.out.trans (hb.mono (HB.out.size)))
    clear hb
    go_wp2_with fail
    go_returns
    exact ⟨rfl, HB.out⟩
  · have hca : (chkSpans a != 0) = true := by rw [bne_iff_ne]; exact h1
    clear h h1
    generalize hx : chkSpans a = x at hca
    have HX := hd hx
    clear hx
    go_enter Tryz.func5, Tryz.ntmps5
    go_wp2_with fail
    refine (HA.out _).mono ?_
    rintro e w1 ⟨rfl, hb⟩
    replace HB := hd (HB.out.trans (hb.mono (HB.out.size)))
    replace RA := hd ((RA.out.below hb (Nat.le_refl _)).mono hb.size)
    clear hb
    go_wp2_with fail
    refine (refChkSpans_any _ a _ RA.out).mono ?_
    rw [HX.out]
    rintro e w2 ⟨rfl, hb⟩
    replace HB := hd (HB.out.trans (hb.mono (HB.out.size)))
    clear hb
    go_wp2_with fail
    refine (HA.out _).mono ?_
    rintro e w4 ⟨rfl, hb⟩
    replace HB := hd (HB.out.trans (hb.mono (HB.out.size)))
    clear hb
    go_wp2_with fail
    go_returns
    exact ⟨rfl, HB.out⟩
end Go.Proofs.YtmcgkpfbehlpcaaGreatDoor
