/-
  CheckLevel, the project's and the reference's, of the bits of every float32.
-/
import Derived.Test.YtcekfcefdmejeaaGreatDoorProg
import Derived.Test.YtcekfcefdmejeaaGreatDoorFA
namespace Go.Proofs.YtcekfcefdmejeaaGreatDoor
open Go.RowKit
open Ieee (Format Datum)

theorem floor_run (x : Nat) (h : noNaN x = true) (w : World) : (callFunc 117 #[.float .f64 x]).run Tryz.prog w = .ok (.value (.float .f64 (ffloor x))) w := by
  rw [run_callFunc_extern (e := Extern.MathFloor.toIntegral "math.archFloor" .down) Tryz.func117 (by kernel_rfl) (by kernel_rfl) (by kernel_rfl) (by kernel_rfl)]
  obtain ⟨N, hN⟩ := integral_of "math.archFloor" .down x
  rw [hN]
  unfold noNaN at h
  unfold ffloor
  cases hd : FloatKind.f64.decode x with
  | nan s t => rw [hd] at h; cases h
  | infinity s => rfl
  | number s m e => rfl
theorem floor_any (x : Nat) (h : noNaN x = true) (w : World) : Calls Tryz.prog 80 #[.float .f64 x] w fun e w' => e = .returned (.float .f64 (ffloor x)) ∧ w = w' := by
  have h1 := floor_run x h
  go_enter Tryz.func80, Tryz.ntmps80
  go_wp2
  go_ret
  exact ⟨rfl, rfl⟩

/-- A NaN that a conversion draws. -/
def nanW (t : Nat) : Nat := (t % 2) * 2 ^ 63 + 0x7ff0000000000000 + 1 + (t / 2) % (2 ^ 52 - 1)
theorem nan_order (t : Nat) : (FloatKind.f64.format.order (nanW t) (nanW t) != some .eq) = true := by
  have hr : ∃ s p, FloatKind.f64.format.read (nanW t) = .nan s p := by
    have h1 : FloatKind.f64.format.signWeight = 9223372036854775808 := by decide
    have h2 : FloatKind.f64.format.infRung = 9218868437227405312 := by decide
    have h3 : FloatKind.f64.format.binade = 4503599627370496 := by decide
    have hm : nanW t % 9223372036854775808 = 9218868437227405313 + (t / 2) % 4503599627370495 := by unfold nanW; omega
    unfold Format.read
    simp only
    rw [h1, h2, h3, hm, if_neg (by omega), if_neg (by omega), if_neg (by omega)]
    exact ⟨_, _, rfl⟩
  obtain ⟨s, p, hr⟩ := hr
  unfold Format.order
  rw [hr]
  rfl
theorem conv_nan {b : Nat} {s : Bool} {p : Nat} (h : FloatKind.f32.decode b = .nan s p) (w : World) : ∃ x, (FloatKind.f64.format.order x x != some .eq) = true ∧ (convert 62 132 (.float .f32 b)).run Tryz.prog w = .ok (.float .f64 x) w.drew := by
  refine ⟨nanW (w.tape w.drawn (.nanConv .f64 b)), nan_order _, ?_⟩
  obtain ⟨u, hs'⟩ := Option.isSome_iff_exists.1 (show (Tryz.prog.underlying 62).isSome = true by kernel_rfl)
  cases u <;> simp [convert, run_underlying hs', run_underlying Tryz.underlying132, Conv.floatToFloat, h, nanW, Question.cut, Question.forced]

theorem below_drew (w : World) : Below w.heap.size w w.drew := (Below.refl _ w).drew

/-- The facts of CheckLevel's walks, of a float that is an infinity. -/
theorem lev_inf (b : Nat) (s : Bool) (h : FloatKind.f32.decode b = .infinity s) : ∃ x, floatToFloatBits .f32 b .f64 = some x ∧ (FloatKind.f64.format.order x x != some .eq) = false ∧ (FloatKind.f64.format.order (fabs x) 9218868437227405311 == some .gt) = true := by
  refine ⟨FloatKind.f64.encode (.infinity s), ?_, ?_, ?_⟩
  · unfold floatToFloatBits
    rw [if_neg (by decide), h]
  · cases s <;> decide +kernel
  · cases s <;> decide +kernel

set_option maxRecDepth 100000 in
set_option maxHeartbeats 1000000 in
theorem gLev_any (b : Nat) (w : World) : Calls Tryz.prog 74 #[.float .f32 b] w fun e w' => e = .returned (.int .i64 (chkLev b)) ∧ Below w.heap.size w w' := by
  cases hd0 : FloatKind.f32.decode b with
  | nan s p =>
    have HC := hd (show chkLev b = 1 by unfold chkLev; rw [hd0])
    obtain ⟨x, hx, hc⟩ := conv_nan hd0 w
    clear hd0
    go_enter Tryz.func74, Tryz.ntmps74
    go_wp2_with (go_at_call 78; refine (isNaN_any _ _).mono ?_; rintro e w' ⟨rfl, rfl⟩)
    go_returns
    exact ⟨by rw [HC.out]; rfl, below_drew w⟩
  | infinity s =>
    have HC := hd (show chkLev b = 1 by unfold chkLev; rw [hd0])
    obtain ⟨x, hx, h1, h2⟩ := lev_inf b s hd0
    have hc := fun w => run_convert_float_float (P := Tryz.prog) w 62 132 .f32 .f64 b x (by kernel_rfl) Tryz.underlying132 hx
    clear hd0 hx
    generalize hfa : fabs x = ax at *
    have HFA := hd hfa
    clear hfa
    go_enter Tryz.func74, Tryz.ntmps74
    go_wp2_with (first | (go_at_call 78; refine (isNaN_any _ _).mono ?_; rintro e w' ⟨rfl, rfl⟩) | (go_at_call 79; refine (isInf_any _ _).mono ?_; rintro e w' ⟨rfl, rfl⟩; rw [HFA.out]))
    go_returns
    exact ⟨by rw [HC.out]; rfl, Below.refl _ _⟩
  | number s m e =>
    have hC : chkLev b = unl (decide (16 * magOf dbl m e % oneU dbl = 0) && decide (magOf dbl m e ≤ 64 * oneU dbl)) 3 := by
      unfold chkLev; rw [hd0]; simp only [unl]
      by_cases h1 : 16 * magOf dbl m e % oneU dbl = 0 <;> by_cases h2 : magOf dbl m e ≤ 64 * oneU dbl <;> simp [h1, h2]
    obtain ⟨hf, he⟩ := f32_top hd0
    obtain ⟨x, y, L⟩ := levF_of hf he
    have h1 : (FloatKind.f64.format.order x x != some .eq) = false := by have := L.nan; simp only [bne, this]; rfl
    have h2 := L.inf
    have h3 : noNaN y = true := by
      obtain ⟨s', m', e', h⟩ := L.num
      unfold noNaN
      rw [h]
    have h4 := L.trunc
    have h5 := L.abs
    have hc := fun w => run_convert_float_float (P := Tryz.prog) w 62 132 .f32 .f64 b x (by kernel_rfl) Tryz.underlying132 L.wide
    have hm := fun w => run_float_arith (P := Tryz.prog) w .mul 132 .f64 x 4625196817309499392 y L.big
    generalize decide (16 * magOf dbl m e % oneU dbl = 0) = G at h4 hC
    generalize decide (magOf dbl m e ≤ 64 * oneU dbl) = K at h5 hC
    have H3 := hd h3
    have HC := hd hC
    clear L hf he hd0 h3 hC
    generalize hfa : fabs x = ax at *
    have HFA := hd hfa
    clear hfa
    cases G <;> cases K
    all_goals
      go_enter Tryz.func74, Tryz.ntmps74
      go_wp2_with (first | (go_at_call 78; refine (isNaN_any _ _).mono ?_; rintro e w' ⟨rfl, rfl⟩) | (go_at_call 79; refine (isInf_any _ _).mono ?_; rintro e w' ⟨rfl, rfl⟩; rw [HFA.out]) | (go_at_call 114; refine (trunc_any _ H3.out _).mono ?_; rintro e w' ⟨rfl, rfl⟩) | (go_at_call 115; refine (abs_any _ _).mono ?_; rintro e w' ⟨rfl, rfl⟩; rw [HFA.out]) | (go_at_call 63; refine (unl_any _ _ _).mono ?_; rintro e w' ⟨rfl, rfl⟩))
      go_returns
      exact ⟨by rw [HC.out]; rfl, Below.refl _ _⟩

set_option maxRecDepth 100000 in
set_option maxHeartbeats 1000000 in
theorem rLev_any (b : Nat) (w : World) : Calls Tryz.prog 31 #[.float .f32 b] w fun e w' => e = .returned (.int .i64 (chkLev b)) ∧ Below w.heap.size w w' := by
  cases hd0 : FloatKind.f32.decode b with
  | nan s p =>
    have HC := hd (show chkLev b = 1 by unfold chkLev; rw [hd0])
    obtain ⟨x, hx, hc⟩ := conv_nan hd0 w
    clear hd0
    go_enter Tryz.func31, Tryz.ntmps31
    go_wp2_with (go_at_call 78; refine (isNaN_any _ _).mono ?_; rintro e w' ⟨rfl, rfl⟩)
    go_returns
    exact ⟨by rw [HC.out]; rfl, below_drew w⟩
  | infinity s =>
    have HC := hd (show chkLev b = 1 by unfold chkLev; rw [hd0])
    obtain ⟨x, hx, h1, h2⟩ := lev_inf b s hd0
    have hc := fun w => run_convert_float_float (P := Tryz.prog) w 62 132 .f32 .f64 b x (by kernel_rfl) Tryz.underlying132 hx
    clear hd0 hx
    generalize hfa : fabs x = ax at *
    have HFA := hd hfa
    clear hfa
    go_enter Tryz.func31, Tryz.ntmps31
    go_wp2_with (first | (go_at_call 78; refine (isNaN_any _ _).mono ?_; rintro e w' ⟨rfl, rfl⟩) | (go_at_call 79; refine (isInf_any _ _).mono ?_; rintro e w' ⟨rfl, rfl⟩; rw [HFA.out]))
    go_returns
    exact ⟨by rw [HC.out]; rfl, Below.refl _ _⟩
  | number s m e =>
    have hC : chkLev b = unl (decide (16 * magOf dbl m e % oneU dbl = 0) && decide (magOf dbl m e ≤ 64 * oneU dbl)) 3 := by
      unfold chkLev; rw [hd0]; simp only [unl]
      by_cases h1 : 16 * magOf dbl m e % oneU dbl = 0 <;> by_cases h2 : magOf dbl m e ≤ 64 * oneU dbl <;> simp [h1, h2]
    obtain ⟨hf, he⟩ := f32_top hd0
    obtain ⟨x, y, L⟩ := levF_of hf he
    have h1 : (FloatKind.f64.format.order x x != some .eq) = false := by have := L.nan; simp only [bne, this]; rfl
    have h2 := L.inf
    have h3 : noNaN y = true := by
      obtain ⟨s', m', e', h⟩ := L.num
      unfold noNaN
      rw [h]
    have h4 : (FloatKind.f64.format.order y (ffloor y) != some .eq) = !decide (16 * magOf dbl m e % oneU dbl = 0) := by rw [← L.floor]; rfl
    have h5 := L.out
    have hc := fun w => run_convert_float_float (P := Tryz.prog) w 62 132 .f32 .f64 b x (by kernel_rfl) Tryz.underlying132 L.wide
    have hm := fun w => run_float_arith (P := Tryz.prog) w .mul 132 .f64 4625196817309499392 x y L.big'
    generalize decide (16 * magOf dbl m e % oneU dbl = 0) = G at h4 hC
    generalize decide (magOf dbl m e ≤ 64 * oneU dbl) = K at h5 hC
    generalize hp : (FloatKind.f64.format.order x 4634204016564240384 == some .gt) = p at h5
    generalize hq : (FloatKind.f64.format.order x 13857576053419016192 == some .lt) = q at h5
    have H3 := hd h3
    have HC := hd hC
    clear L hf he hd0 h3 hC
    generalize hfa : fabs x = ax at *
    have HFA := hd hfa
    clear hfa
    cases G <;> cases K <;> cases p <;> cases q <;> simp at h5
    all_goals
      go_enter Tryz.func31, Tryz.ntmps31
      go_wp2_with (first | (go_at_call 78; refine (isNaN_any _ _).mono ?_; rintro e w' ⟨rfl, rfl⟩) | (go_at_call 79; refine (isInf_any _ _).mono ?_; rintro e w' ⟨rfl, rfl⟩; rw [HFA.out]) | (go_at_call 80; refine (floor_any _ H3.out _).mono ?_; rintro e w' ⟨rfl, rfl⟩))
      go_returns
      exact ⟨by rw [HC.out]; rfl, Below.refl _ _⟩
end Go.Proofs.YtcekfcefdmejeaaGreatDoor
