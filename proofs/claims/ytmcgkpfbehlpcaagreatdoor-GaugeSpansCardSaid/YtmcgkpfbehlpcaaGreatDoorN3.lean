/-
  Join, Meet and Minus of lists of which one is not canonical: no list, and the first error.
-/
import Derived.Test.YtmcgkpfbehlpcaaGreatDoorProg
import Derived.Test.YtmcgkpfbehlpcaaGreatDoorMN
namespace Go.Proofs.YtmcgkpfbehlpcaaGreatDoor
open Go.RowKit
attribute [local go_sem] Oper.semAt_some

/-- No list, and an error. -/
def Refused (x : Int) (w : World) (e : Ending) (w' : World) : Prop := e = .returned (.tuple #[.slice none 0 0, .int .i64 x]) ∧ Below w.heap.size w w'

set_option maxRecDepth 1000000 in
set_option maxHeartbeats 4000000 in
theorem combine_bad (g : Nat) (sa sb : Value) (a b : List (Int × Int)) (x : Int) (w : World) (ha : Rd w w.heap.size sa a.length (spc a)) (hb : Rd w w.heap.size sb b.length (spc b)) (h : fst0 [chkSpans a, chkSpans b] = x) (hx : (x != 0) = true) :
    Calls Tryz.prog 67 #[sa, sb, .func (.func g) #[] #[]] w (Refused x w) := by
  have HA := hd ha
  have HB := hd hb
  obtain ⟨A1, c1, rfl, -⟩ := ha
  obtain ⟨A2, c2, rfl, -⟩ := hb
  generalize hxa : chkSpans a = xa at h
  generalize hxb : chkSpans b = xb at h
  have HXA := hd hxa
  have HXB := hd hxb
  have HX := hd h
  clear hxa hxb h
  go_enter Tryz.func67, Tryz.ntmps67
  go_wp2_with fail
  refine (chkSpans_any _ a _ HA.out).mono ?_
  rw [HXA.out]
  rintro e w1 ⟨rfl, hb1⟩
  have HB1 := hd hb1
  replace HB := hd ((HB.out.below hb1 (Nat.le_refl _)).mono hb1.size)
  clear hb1
  go_wp2_with fail
  refine (chkSpans_any _ b _ HB.out).mono ?_
  rw [HXB.out]
  rintro e w2 ⟨rfl, hb2⟩
  have HB2 := hd (HB1.out.trans (hb2.mono HB1.out.size))
  clear hb2
  go_wp2_with (go_at_call 51; refine (first2 _ _ _ _).mono ?_; rintro e w' ⟨rfl, rfl⟩; rw [HX.out])
  go_returns
  exact ⟨rfl, HB2.out.alloc HB2.out.size _⟩

set_option maxRecDepth 100000 in
theorem join_bad (sa sb : Value) (a b : List (Int × Int)) (x : Int) (w : World) (ha : Rd w w.heap.size sa a.length (spc a)) (hb : Rd w w.heap.size sb b.length (spc b)) (h : fst0 [chkSpans a, chkSpans b] = x) (hx : (x != 0) = true) :
    Calls Tryz.prog 25 #[sa, sb] w (Refused x w) := by
  have H := hd (combine_bad 68 sa sb a b x w ha hb h hx)
  clear ha hb h hx
  go_enter Tryz.func25, Tryz.ntmps25
  go_wp2_with fail
  refine H.out.mono ?_
  rintro e w1 ⟨rfl, hb⟩
  have HB := hd hb
  clear hb
  go_wp2
  go_returns
  exact ⟨rfl, HB.out⟩
set_option maxRecDepth 100000 in
theorem meet_bad (sa sb : Value) (a b : List (Int × Int)) (x : Int) (w : World) (ha : Rd w w.heap.size sa a.length (spc a)) (hb : Rd w w.heap.size sb b.length (spc b)) (h : fst0 [chkSpans a, chkSpans b] = x) (hx : (x != 0) = true) :
    Calls Tryz.prog 27 #[sa, sb] w (Refused x w) := by
  have H := hd (combine_bad 69 sa sb a b x w ha hb h hx)
  clear ha hb h hx
  go_enter Tryz.func27, Tryz.ntmps27
  go_wp2_with fail
  refine H.out.mono ?_
  rintro e w1 ⟨rfl, hb⟩
  have HB := hd hb
  clear hb
  go_wp2
  go_returns
  exact ⟨rfl, HB.out⟩
set_option maxRecDepth 100000 in
theorem minus_bad (sa sb : Value) (a b : List (Int × Int)) (x : Int) (w : World) (ha : Rd w w.heap.size sa a.length (spc a)) (hb : Rd w w.heap.size sb b.length (spc b)) (h : fst0 [chkSpans a, chkSpans b] = x) (hx : (x != 0) = true) :
    Calls Tryz.prog 28 #[sa, sb] w (Refused x w) := by
  have H := hd (combine_bad 70 sa sb a b x w ha hb h hx)
  clear ha hb h hx
  go_enter Tryz.func28, Tryz.ntmps28
  go_wp2_with fail
  refine H.out.mono ?_
  rintro e w1 ⟨rfl, hb⟩
  have HB := hd hb
  clear hb
  go_wp2
  go_returns
  exact ⟨rfl, HB.out⟩
end Go.Proofs.YtmcgkpfbehlpcaaGreatDoor
