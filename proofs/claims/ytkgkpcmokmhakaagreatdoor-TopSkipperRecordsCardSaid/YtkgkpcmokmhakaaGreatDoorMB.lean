/-
  A law that leaves what was there as it was: its row's last step. No condition of its own.
  The laws of sort.Search and slices.Compact at this program. No condition.
  Contracts of gauge: covers and its closure. Condition: the ends of the spans ascend.
  Contracts on floats: math.IsNaN, IsInf, Abs, Trunc; gauge.CheckLevel, sixteenths, distance. Conditions are stated at each.
  Contracts of gauge over valid records: Each over levels and gaps, common, checkEnds. Conditions are stated at each.
  Contracts of gauge over valid records: checkEnds, isSilent. Conditions are stated at each.
-/
import Derived.Test.YtkgkpcmokmhakaaGreatDoorProg
import Derived.Test.YtkgkpcmokmhakaaGreatDoorMA
import Derived.ProofKit
import Derived.LaidMore
import Derived.OpenShut
import Derived.Carry
import Derived.Stop.Joined
import Derived.Lib.SmallJoins
import Derived.Shelf.SlSorted.Search
import Derived.Shelf.Slices.CompactI
import Derived.Ground.SlsoProg
import Derived.Ground.Names2Prog
import Derived.WalkLawsBesides
import Derived.Deep.LoopGhost

namespace Go.Proofs.YtkgkpcmokmhakaaGreatDoor
open Go.ChangeShapes Go.WideShapes Go.ChangeAt Go.RowKit

theorem own : ownKnob Tryz.prog.godebug = none := by kernel_rfl
theorem laidOut : laidOutB Tryz.prog = true := by kernel_rfl

section
variable {H : Type} {enc : TypeId × Value → H}
/-- What was read is read again in a later world that left it alone. -/
theorem all_stay {W W' : World} (hb : Below W.heap.size W W') {sp : Nat → Bool} : ∀ (ts : List TypeId) (vs : List Value) (ds : List (DataW H)) (ps : List MemPlace),
    (∀ t ∈ ts, Tryz.prog.readableRec t = true ∧ t < Tryz.prog.types.size) → DataW.TrodAll enc Tryz.prog W 0 (fun _ => true) true ts vs ds ps → (∀ p ∈ ps, sp p.block = true) → (∀ p ∈ ps, p.block < W.heap.size) →
    DataW.TrodAll enc Tryz.prog W' 0 sp true ts vs ds ps
  | [], vs, ds, ps, _, h, _, _ => by
    obtain ⟨rfl, rfl, rfl⟩ := trodAll_nil h
    exact trodAll_mk0
  | t :: ts, vs, ds, ps, ht, h, hs, hl => by
    obtain ⟨v, vs', d, ds', p, q, rfl, rfl, rfl, h1, h2⟩ := trodAll_cons h
    obtain ⟨r1, r2⟩ := ht t (List.mem_cons_self ..)
    exact trodAll_cons_mk (WideElems.Trod_stays laidOut r1 r2 h1 (fun p hp => hb.same (hl p (List.mem_append_left _ hp))) (fun p hp => hs p (List.mem_append_left _ hp)))
      (all_stay hb ts vs' ds' q (fun t ht' => ht t (List.mem_cons_of_mem _ ht')) h2 (fun p hp => hs p (List.mem_append_right _ hp)) (fun p hp => hl p (List.mem_append_right _ hp)))

/-- The row's outcome, of a call that answers true and left alone what was there. -/
theorem law_post {f : Func} {s : ChangeSpec} {W W' : World} {args : Array Value} {ds : List (DataW H)} {before : List MemPlace} (hv : s.vars = []) (hres : f.resultTypes = #[4])
    (hs1 : (s.fn H (ds ++ [])).results = [.lit (.bool true)]) (hs2 : (s.fn H (ds ++ [])).args = ds) (hs3 : (s.fn H (ds ++ [])).vars = [])
    (ht : ∀ t ∈ f.params.toList, Tryz.prog.readableRec t = true ∧ t < Tryz.prog.types.size)
    (hW : DataW.Whole enc Tryz.prog f.params.toList s.vars false W args.toList ds [] before) (hb : Below W.heap.size W W') : s.post enc Tryz.prog f false true false false W args (.bool true) W' := by
  have hlt : ∀ p ∈ before, p.block < W.heap.size := fun p hp => hW.lt p hp
  have hW2 := hW
  obtain ⟨p, q, hA, hV, rfl, _, _⟩ := hW
  rw [hv] at hV
  obtain ⟨_, rfl⟩ := trodVars_none hV
  have hold : ∀ p' ∈ p ++ [], (fun b => decide (b < W.heap.size)) p'.block = true := fun p' hp => by simpa using hlt p' hp
  refine ⟨ds, [], p ++ [], [], p ++ [], [], hW2, ?_, ?_, ?_, hb.frame _, fun h => by cases h⟩
  · rw [hs1, hres]
    exact trodAll_mk1 (shut_bool Tryz.underlying4 true)
  · rw [hs2, List.append_nil]
    exact all_stay hb _ _ _ _ ht hA (fun p' hp => hold p' (by simpa using hp)) (fun p' hp => hlt p' (by simpa using hp))
  · rw [hs3, hv]
    rfl
end
end Go.Proofs.YtkgkpcmokmhakaaGreatDoor

namespace Go.Proofs
open Go.Shelf
def Tryz.search_ren : Go.Shelf.Ren := ⟨fun | 16 => 106 | n => n, fun | 3 => 3 | 35 => 171 | 4 => 4 | 38 => 154 | n => n, fun | n => n⟩
theorem Tryz.search : Go.Proofs.SlLaysO.n16 Tryz.prog Tryz.search_ren := {
  mixed := by kernel_rfl
  f16 := Tryz.func106.trans (congrArg some (by kernel_rfl))
  t3 := Tryz.underlying3
  a3 := Tryz.isAgg3
  z3 := Tryz.sizeOf3
  v3 := Tryz.zeroValue3
  t4 := Tryz.underlying4
  a4 := Tryz.isAgg4
  z4 := Tryz.sizeOf4
  v4 := Tryz.zeroValue4
  t35 := Tryz.underlying171
  a35 := Tryz.isAgg171
  z35 := Tryz.sizeOf171
  v35 := Tryz.zeroValue171
  t38 := Tryz.underlying154
  a38 := Tryz.isAgg154
  z38 := Tryz.sizeOf154
  v38 := Tryz.zeroValue154 }
end Go.Proofs

namespace Go.Proofs.YtkgkpcmokmhakaaGreatDoor
open Go.RowKit Go.Sort Go.Shelf

/-- At how many indices the span ends at or before t; whether the next one holds t. -/
def ix (l : List (Int × Int)) (t : Int) : Nat := (List.range l.length).countP (fun i => !decide (t < (l.getD i (0, 0)).2))
def cov (l : List (Int × Int)) (t : Int) : Bool := decide (ix l t < l.length) && decide ((l.getD (ix l t) (0, 0)).1 ≤ t)
/-- The ends ascend. -/
def Asc (l : List (Int × Int)) : Prop := ∀ a b, a ≤ b → b < l.length → (l.getD a (0, 0)).2 ≤ (l.getD b (0, 0)).2

theorem spc_getD (l : List (Int × Int)) (k : Nat) (hk : k < l.length) : (spc l)[k * 2]? = some (.int .i64 (l.getD k (0, 0)).1) ∧ (spc l)[k * 2 + 1]? = some (.int .i64 (l.getD k (0, 0)).2) := by
  have e : l.getD k (0, 0) = l[k] := by simp [hk]
  rw [e]
  exact spc_at l k hk

set_option maxRecDepth 100000 in
set_option maxHeartbeats 1000000 in
theorem covers_clo (bl bt b off n c i : Nat) (t u : Int) (W : World) (hi : i < n)
    (hl : W.cell? ⟨bl, 0, none⟩ = some (.slice (some ⟨b, off, none⟩) n c)) (ht : W.cell? ⟨bt, 0, none⟩ = some (.int .i64 t)) (hc : W.cell? ⟨b, off + i * 2 + 1, none⟩ = some (.int .i64 u)) :
    Calls Tryz.prog 107 (#[.int .i64 i] ++ #[.pointer (some ⟨bl, 0, none⟩), .pointer (some ⟨bt, 0, none⟩)]) W fun e w' => e = .returned (.bool (decide (t < u))) ∧ ∃ q, w' = W.drewN q := by
  have hiz : (i : Int) < (n : Int) := by omega
  go_enter Tryz.func107, Tryz.ntmps107
  go_wp2
  go_quiet (fail)
  go_wp2
  go_ret
  exact ⟨rfl, nq, rfl⟩

set_option maxRecDepth 100000 in
set_option maxHeartbeats 1000000 in
theorem covers_any (sl : Value) (l : List (Int × Int)) (t : Int) (w : World) (h : Rd w w.heap.size sl l.length (spc l)) (hasc : Asc l) (hn : l.length ≤ 100000) :
    Calls Tryz.prog 77 #[sl, .int .i64 t] w fun e w' => e = .returned (.bool (cov l t)) ∧ Below w.heap.size w w' := by
  obtain ⟨A, c, rfl, hc1, hc2, hc⟩ := h
  obtain ⟨W0, hW0⟩ : ∃ W0, W0 = (w.alloc (.cells #[.slice A l.length c] 23)).alloc (.cells #[.int .i64 t] 3) := ⟨_, rfl⟩
  have hsize : W0.heap.size = w.heap.size + 1 + 1 := by rw [hW0]; simp
  have ca : W0.cell? ⟨w.heap.size, 0, none⟩ = some (.slice A l.length c) := by rw [hW0]; exact cell_alloc_sl _ (cell_new_sl w _ _)
  have cx : W0.cell? ⟨w.heap.size + 1, 0, none⟩ = some (.int .i64 t) := by rw [hW0]; have := cell_new_sl (w.alloc (.cells #[.slice A l.length c] 23)) (.int .i64 t) 3; rwa [World.size_alloc] at this
  have hB0 : Below w.heap.size w W0 := by rw [hW0]; exact ((Below.refl _ w).alloc (Nat.le_refl _) _).alloc (by simp) _
  have eg : ∀ args w, (callFunc 107 args).run Tryz.prog w = .ok (.enter 107 args) w := enters_of Tryz.func107 (by kernel_rfl) rfl
  have hlen62 : l.length < 4611686018427387904 := by omega
  have hS := Any.sort_Search Tryz.search 107 #[.pointer (some ⟨w.heap.size, 0, none⟩), .pointer (some ⟨w.heap.size + 1, 0, none⟩)] l.length (fun i => decide (t < (l.getD i (0, 0)).2)) W0 eg hlen62
    (fun m os i hi => by
      obtain ⟨b, off, rfl, hb, hcell⟩ := hc (by omega)
      have hcc := (hcell (i * 2 + 1) (by rw [spc_len]; omega)).trans (spc_getD l i hi).2
      have hc0 : W0.cell? ⟨b, off + (i * 2 + 1), none⟩ = some (.int .i64 (l.getD i (0, 0)).2) := (hB0.cell (p := ⟨b, _, none⟩) hb).trans hcc
      exact (covers_clo w.heap.size (w.heap.size + 1) b off l.length c i t _ _ hi (cell_grown (by simp [hsize]; omega) ca m os) (cell_grown (by simp [hsize]) cx m os) (cell_grown (by simp [hsize]; omega) hc0 m os)).mono
        fun _ _ ⟨he, q, hq⟩ => ⟨he, q, #[], by rw [hq, grow_empty]⟩)
    (fun a b hab hb h => by have := hasc a b hab hb; simp only [decide_eq_true_eq] at h ⊢; omega)
  change Calls Tryz.prog 106 _ _ _ at hS
  change Calls Tryz.prog 106 _ _ (fun e w' => e = .returned (.int .i64 (ix l t : Nat)) ∧ _) at hS
  have HCov := hd (show cov l t = (decide (ix l t < l.length) && decide ((l.getD (ix l t) (0, 0)).1 ≤ t)) from rfl)
  generalize hk : ix l t = k at *
  have HK := hd hk
  have HC := hd hc
  clear hc hk hn
  by_cases hlt : k < l.length
  · obtain ⟨b, off, rfl, hb, hcell⟩ := HC.out (by omega)
    have hcc := (hcell (k * 2) (by rw [spc_len]; omega)).trans (spc_getD l k hlt).1
    have hc0 : W0.cell? ⟨b, off + k * 2, none⟩ = some (.int .i64 (l.getD k (0, 0)).1) := (hB0.cell (p := ⟨b, _, none⟩) hb).trans hcc
    clear hcell hcc
    generalize (l.getD k (0, 0)).1 = f at *
    have hltz : (k : Int) < (l.length : Int) := by omega
    have hltb : decide ((k : Int) < (l.length : Int)) = true := by simpa using hlt
    have hltb2 : decide (k < l.length) = true := by simpa using hlt
    have HW0 := hd hW0
    clear hW0
    go_enter Tryz.func77, Tryz.ntmps77
    go_wp2_with (go_at_call 106; rw [← HW0.out]; refine hS.mono ?_; rintro e w' ⟨rfl, q, os, rfl⟩)
    have k1 := cell_grown (by simp [hsize]; omega) ca q os
    have k2 := cell_grown (by simp [hsize]) cx q os
    have k3 := cell_grown (by simp [hsize]; omega) hc0 q os
    have hbb : Below w.heap.size w (grow (W0.drewN q) os) := hB0.trans (below_grown_sl w.heap.size W0 q os (by omega))
    generalize grow (W0.drewN q) os = W1 at *
    clear hS ca cx hc0 hB0 eg
    go_quiet (fail)
    go_wp2
    go_ret
    exact ⟨by rw [HCov.out]; simp [hlt], Below.trans hbb ⟨rfl, rfl, rfl, Nat.le_refl _, fun _ _ => rfl⟩⟩
  · have hltz : ¬ (k : Int) < (l.length : Int) := by omega
    have hltb : decide ((k : Int) < (l.length : Int)) = false := by simpa using hlt
    have hltb2 : decide (k < l.length) = false := by simpa using hlt
    have HW0 := hd hW0
    clear hW0
    go_enter Tryz.func77, Tryz.ntmps77
    go_wp2_with (go_at_call 106; rw [← HW0.out]; refine hS.mono ?_; rintro e w' ⟨rfl, q, os, rfl⟩)
    have k1 := cell_grown (by simp [hsize]; omega) ca q os
    have k2 := cell_grown (by simp [hsize]) cx q os
    have hbb : Below w.heap.size w (grow (W0.drewN q) os) := hB0.trans (below_grown_sl w.heap.size W0 q os (by omega))
    generalize grow (W0.drewN q) os = W1 at *
    clear hS ca cx hB0 eg
    go_quiet (fail)
    go_wp2
    go_ret
    exact ⟨by rw [HCov.out]; simp [hlt], Below.trans hbb ⟨rfl, rfl, rfl, Nat.le_refl _, fun _ _ => rfl⟩⟩

end Go.Proofs.YtkgkpcmokmhakaaGreatDoor

namespace Go.Proofs.YtkgkpcmokmhakaaGreatDoor
open Go.RowKit

theorem f64bits_run (x : Nat) (w : World) : (callFunc 115 #[.float .f64 x]).run Tryz.prog w = .ok (.value (.int .u64 x)) w := by kernel_rfl
theorem f64from_run (x : Int) (w : World) : (callFunc 114 #[.int .u64 x]).run Tryz.prog w = .ok (.value (.float .f64 x.toNat)) w := by kernel_rfl

/-- That a float is a number, or an infinity. -/
def noNaN (x : Nat) : Bool := match FloatKind.f64.decode x with | .nan _ _ => false | _ => true
def ftrunc (x : Nat) : Nat := FloatKind.f64.encode ((FloatKind.f64.decode x).integral .zero)
theorem integral_of (name : String) (way : Ieee.Toward) (x : Nat) : ∃ N : Bool → Nat → Sem Value, Extern.MathFloor.toIntegral name way #[.float .f64 x] = match FloatKind.f64.decode x with | .nan s t => N s t | d => pure (.float .f64 (FloatKind.f64.encode (d.integral way))) := ⟨_, rfl⟩
theorem trunc_run (x : Nat) (h : noNaN x = true) (w : World) : (callFunc 121 #[.float .f64 x]).run Tryz.prog w = .ok (.value (.float .f64 (ftrunc x))) w := by
  rw [run_callFunc_extern (e := Extern.MathFloor.toIntegral "math.archTrunc" .zero) Tryz.func121 (by kernel_rfl) (by kernel_rfl) (by kernel_rfl) (by kernel_rfl)]
  obtain ⟨N, hN⟩ := integral_of "math.archTrunc" .zero x
  rw [hN]
  unfold noNaN at h
  unfold ftrunc
  cases hd : FloatKind.f64.decode x with
  | nan s t => rw [hd] at h; cases h
  | infinity s => rfl
  | number s m e => rfl

theorem isNaN_any (x : Nat) (w : World) : Calls Tryz.prog 55 #[.float .f64 x] w fun e w' => e = .returned (.bool (FloatKind.f64.format.order x x != some .eq)) ∧ w = w' := by
  go_enter Tryz.func55, Tryz.ntmps55
  go_wp2
  go_ret
  exact ⟨rfl, rfl⟩

def fabs (x : Nat) : Nat := (bits BinOp.andNot IntKind.u64 x 9223372036854775808).toNat
theorem abs_any (x : Nat) (w : World) : Calls Tryz.prog 84 #[.float .f64 x] w fun e w' => e = .returned (.float .f64 (fabs x)) ∧ w = w' := by
  have h1 := f64bits_run x
  have h2 := f64from_run
  go_enter Tryz.func84, Tryz.ntmps84
  go_wp2
  go_ret
  exact ⟨rfl, rfl⟩

theorem isInf_any (x : Nat) (w : World) : Calls Tryz.prog 56 #[.float .f64 x, .int .i64 0] w fun e w' => e = .returned (.bool (FloatKind.f64.format.order (fabs x) 9218868437227405311 == some .gt)) ∧ w = w' := by
  go_enter Tryz.func56, Tryz.ntmps56
  go_wp2_with (go_at_call 84; refine (abs_any _ _).mono ?_; rintro e w' ⟨rfl, rfl⟩)
  go_ret
  exact ⟨rfl, rfl⟩

theorem trunc_any (x : Nat) (h : noNaN x = true) (w : World) : Calls Tryz.prog 99 #[.float .f64 x] w fun e w' => e = .returned (.float .f64 (ftrunc x)) ∧ w = w' := by
  have h1 := trunc_run x h
  go_enter Tryz.func99, Tryz.ntmps99
  go_wp2
  go_ret
  exact ⟨rfl, rfl⟩

/-- What CheckLevel asks of the bits of a valid level, as one Bool. -/
def lev64 (x y : Nat) : Bool :=
  (FloatKind.f64.format.order x x != some .eq) == false && (FloatKind.f64.format.order (fabs x) 9218868437227405311 == some .gt) == false && noNaN y &&
  (FloatKind.f64.format.order (ftrunc y) y == some .eq) && (FloatKind.f64.format.order (fabs x) 4634204016564240384 == some .lt || FloatKind.f64.format.order (fabs x) 4634204016564240384 == some .eq)
def levA (b : Nat) : Bool :=
  match floatToFloatBits .f32 b .f64 with
  | none => false
  | some x => match floatBits .mul .f64 x 4625196817309499392 with
    | none => false
    | some y => lev64 x y

def sixt (b : Nat) : Option Int := (floatBits .mul .f32 b 1098907648).bind fun z => floatToIntVal .f32 z .i64
/-- 16 times a level. -/
def s16 (b : Nat) : Int := (sixt b).getD 0
/-- The bits of a valid level. -/
def levOK (b : Nat) : Bool := levA b && (match sixt b with | some v => decide (-1024 ≤ v) && decide (v ≤ 1024) | none => false)
theorem sixt_of {b : Nat} (h : levOK b = true) : sixt b = some (s16 b) ∧ -1024 ≤ s16 b ∧ s16 b ≤ 1024 := by
  unfold levOK at h
  cases hs : sixt b with
  | none => rw [hs] at h; simp at h
  | some v => rw [hs] at h; simp only [Bool.and_eq_true, decide_eq_true_eq] at h; exact ⟨by simp [s16, hs], by simp only [s16, hs]; exact h.2.1, by simp only [s16, hs]; exact h.2.2⟩

set_option maxRecDepth 100000 in
theorem chkLevel_ok (b : Nat) (w : World) (h : levOK b = true) : Calls Tryz.prog 71 #[.float .f32 b] w fun e w' => e = .returned (.int .i64 0) ∧ w = w' := by
  have h : levA b = true := by unfold levOK at h; simp only [Bool.and_eq_true] at h; exact h.1
  unfold levA at h
  split at h
  · cases h
  · rename_i x hx
    split at h
    · cases h
    · rename_i y hy
      unfold lev64 at h
      simp only [Bool.and_eq_true, beq_iff_eq] at h
      obtain ⟨⟨⟨⟨h1, h2⟩, h3⟩, h4⟩, h5⟩ := h
      have hc := fun w => run_convert_float_float (P := Tryz.prog) w 60 116 .f32 .f64 b x (by kernel_rfl) Tryz.underlying116 hx
      have hm := fun w => run_float_arith (P := Tryz.prog) w .mul 116 .f64 x 4625196817309499392 y hy
      have h4' : (FloatKind.f64.format.order (ftrunc y) y == some .eq) = true := by simpa using h4
      have H3 := hd h3
      clear hx hy h3 h4
      generalize hfa : fabs x = ax at *
      have HFA := hd hfa
      clear hfa
      go_enter Tryz.func71, Tryz.ntmps71
      go_wp2_with (first | (go_at_call 55; refine (isNaN_any _ _).mono ?_; rintro e w' ⟨rfl, rfl⟩) | (go_at_call 56; refine (isInf_any _ _).mono ?_; rintro e w' ⟨rfl, rfl⟩; rw [HFA.out]) | (go_at_call 99; refine (trunc_any _ H3.out _).mono ?_; rintro e w' ⟨rfl, rfl⟩) | (go_at_call 84; refine (abs_any _ _).mono ?_; rintro e w' ⟨rfl, rfl⟩; rw [HFA.out]) | (go_at_call 40; refine (unl_any _ _ _).mono ?_; rintro e w' ⟨rfl, rfl⟩))
      go_ret
      exact ⟨by simp [unl], rfl⟩

theorem sixt_any (b : Nat) (n : Int) (w : World) (h : sixt b = some n) : Calls Tryz.prog 37 #[.float .f32 b] w fun e w' => e = .returned (.int .i64 n) ∧ w = w' := by
  unfold sixt at h
  obtain ⟨z, hz, hn⟩ := Option.bind_eq_some_iff.1 h
  have hm := fun w => run_float_arith (P := Tryz.prog) w .mul 60 .f32 b 1098907648 z hz
  have hc := fun w => run_convert_float_int (P := Tryz.prog) w 60 3 .f32 .i64 z n (by kernel_rfl) Tryz.underlying3 hn
  clear hz hn h
  go_enter Tryz.func37, Tryz.ntmps37
  go_wp2
  go_ret
  exact ⟨rfl, rfl⟩

theorem dist_any (a b : Nat) (n m : Int) (w : World) (ha : sixt a = some n) (hb : sixt b = some m) (hn : -1000000 ≤ n ∧ n ≤ 1000000) (hm : -1000000 ≤ m ∧ m ≤ 1000000) :
    Calls Tryz.prog 88 #[.float .f32 a, .float .f32 b] w fun e w' => e = .returned (.int .i64 (max (n - m) (m - n))) ∧ w = w' := by
  obtain ⟨n1, n2⟩ := hn
  obtain ⟨m1, m2⟩ := hm
  have HA := hd ha
  have HB := hd hb
  clear ha hb
  go_enter Tryz.func88, Tryz.ntmps88
  go_wp2_with fail
  refine (sixt_any _ _ _ HA.out).mono ?_
  rintro e w' ⟨rfl, rfl⟩
  go_wp2_with fail
  refine (sixt_any _ _ _ HB.out).mono ?_
  rintro e w' ⟨rfl, rfl⟩
  go_wp2
  all_goals go_ret
  all_goals exact ⟨congrArg (fun z => Ending.returned (.int .i64 z)) (by omega), rfl⟩

example : levOK 1065353216 = true ∧ levOK 0 = true ∧ sixt 1065353216 = some 16 := by decide +kernel
end Go.Proofs.YtkgkpcmokmhakaaGreatDoor

namespace Go.Proofs.YtkgkpcmokmhakaaGreatDoor
open Go.RowKit

/-- The cells of levels, by their bits. -/
def flc (bs : List Nat) : List Value := bs.map (Value.float .f32)

set_option maxRecDepth 100000 in
theorem eachLev_ok (sl : Value) (bs : List Nat) (w : World) (h : Rd w w.heap.size sl bs.length (flc bs)) (hok : ∀ j, j < bs.length → levOK (bs.getD j 0) = true) :
    Calls Tryz.prog 70 #[sl, .func (.func 71) #[] #[]] w fun e w' => e = .returned (.int .i64 0) ∧ w = w' := by
  obtain ⟨A, c, rfl, hc1, hc2, hc⟩ := h
  unfold maxLen at hc2
  have HC := hd hc
  have HOK := hd hok
  clear hc hok
  go_enter Tryz.func70, Tryz.ntmps70
  go_wp2
  go_loop [4, 10] (fun _ i => ∃ k : Nat, k ≤ bs.length ∧ i = .int .i64 k) (fun _ i => bs.length - (intOf i).toNat)
  case atStart => exact ⟨0, Nat.zero_le _, rfl⟩
  case round =>
    obtain ⟨k, hk, rfl⟩ := hrel
    by_cases hlt : k < bs.length
    · obtain ⟨b, off, rfl, _, hcell⟩ := HC.out (by omega)
      have hx : w.cell? ⟨b, off + k, none⟩ = some (.float .f32 (bs.getD k 0)) := by rw [hcell k (by simpa [flc] using hlt)]; simp [flc, hlt]
      have HL := hd (HOK.out k hlt)
      clear hcell
      generalize bs.getD k 0 = x at hx HL
      go_wp2_with (go_at_call 71; refine (chkLevel_ok _ _ HL.out).mono ?_; rintro e w' ⟨rfl, rfl⟩)
      go_round
      case rel => exact ⟨k + 1, by omega, by go_num⟩
      case measure => simp [intOf]; omega
    · go_wp2
      go_ret
      exact ⟨rfl, rfl⟩

set_option maxRecDepth 100000 in
theorem common_any (f t f' t' : Int) (w : World) :
    Calls Tryz.prog 103 #[.agg #[.int .i64 f, .int .i64 t], .agg #[.int .i64 f', .int .i64 t']] w fun e w' => e = .returned (.agg #[.int .i64 (max f f'), .int .i64 (min t t')]) ∧ Below w.heap.size w w' := by
  go_enter Tryz.func103, Tryz.ntmps103
  go_wp2
  go_returns
  exact ⟨rfl, by go_grown⟩

theorem common_in (f t n : Int) (w : World) (h : max f 0 = f ∧ min t n = t) :
    Calls Tryz.prog 103 #[.agg #[.int .i64 f, .int .i64 t], .agg #[.int .i64 0, .int .i64 n]] w fun e w' => e = .returned (.agg #[.int .i64 f, .int .i64 t]) ∧ Below w.heap.size w w' := by
  have := common_any f t 0 n w
  rwa [h.1, h.2] at this

set_option maxRecDepth 100000 in
set_option maxHeartbeats 1000000 in
/-- The closure of checkEnds: 'whole', (0, n), lies in block B. -/
theorem endsClo_ok (f t n : Int) (B : Nat) (w : World) (h0 : w.cell? ⟨B, 0, none⟩ = some (.int .i64 0)) (h1 : w.cell? ⟨B, 1, none⟩ = some (.int .i64 n)) (hf : 0 ≤ f) (ht : t ≤ n) :
    Calls Tryz.prog 102 #[.agg #[.int .i64 f, .int .i64 t], .pointer (some ⟨B, 0, none⟩)] w fun e w' => e = .returned (.int .i64 0) ∧ Below w.heap.size w w' := by
  have hBlt : B < w.heap.size := World.block_lt_of_cell? _ _ h0
  have e1 : max f 0 = f := by omega
  have e2 : min t n = t := by omega
  have E := hd (And.intro e1 e2)
  clear e1 e2 hf ht
  go_enter Tryz.func102, Tryz.ntmps102
  go_wp2
  have c0 := World.cell?_alloc_new w #[Value.int .i64 f, Value.int .i64 t] 50 0
  have c1 := World.cell?_alloc_new w #[Value.int .i64 f, Value.int .i64 t] 50 1
  have hsz : w.heap.size < (w.alloc (Obj.cells #[Value.int .i64 f, Value.int .i64 t] 50)).heap.size := by simp
  have hb1 : Below w.heap.size w (w.alloc (Obj.cells #[Value.int .i64 f, Value.int .i64 t] 50)) := (Below.refl _ w).alloc (Nat.le_refl _) _
  have g0 := cell_alloc_old (o := Obj.cells #[Value.int .i64 f, Value.int .i64 t] 50) h0
  have g1 := cell_alloc_old (o := Obj.cells #[Value.int .i64 f, Value.int .i64 t] 50) h1
  generalize (w.alloc (Obj.cells #[Value.int .i64 f, Value.int .i64 t] 50)) = W1 at c0 c1 hsz hb1 g0 g1 ⊢
  have F0 : ∀ p : Bw W1, p.out.cell? ⟨w.heap.size, 0, none⟩ = some (.int .i64 f) := fun p => p.cell hsz (by simpa using c0)
  have F1 : ∀ p : Bw W1, p.out.cell? ⟨w.heap.size, 1, none⟩ = some (.int .i64 t) := fun p => p.cell hsz (by simpa using c1)
  have G0 : ∀ p : Bw W1, p.out.cell? ⟨B, 0, none⟩ = some (.int .i64 0) := fun p => p.cell (by omega) g0
  have G1 : ∀ p : Bw W1, p.out.cell? ⟨B, 1, none⟩ = some (.int .i64 n) := fun p => p.cell (by omega) g1
  refine wp_region_bw (by kernel_rfl) (by kernel_rfl) ?_
  repeat (first | go_big_quiet_step (first | (go_at_call 103; exact Bw.call _ (common_in _ _ _ _ E.out)) | (go_at_call 40; exact Bw.pure _ (unl_any _ _ _))))
  refine wpQuiet_nil ?_
  rintro ⟨W2, hB2⟩
  go_wp2
  go_ret
  exact ⟨rfl, hb1.trans (hB2.mono hb1.size)⟩

set_option maxRecDepth 100000 in
theorem eachEnds_ok (sl : Value) (l : List (Int × Int)) (n : Int) (B : Nat) (w : World) (h : Rd w w.heap.size sl l.length (spc l)) (h0 : w.cell? ⟨B, 0, none⟩ = some (.int .i64 0)) (h1 : w.cell? ⟨B, 1, none⟩ = some (.int .i64 n))
    (hok : ∀ j, j < l.length → 0 ≤ (l.getD j (0, 0)).1 ∧ (l.getD j (0, 0)).2 ≤ n) :
    Calls Tryz.prog 101 #[sl, .func (.func 102) #[] #[.pointer (some ⟨B, 0, none⟩)]] w fun e w' => e = .returned (.int .i64 0) ∧ Below w.heap.size w w' := by
  obtain ⟨A, c, rfl, hc1, hc2, hc⟩ := h
  have hBlt : B < w.heap.size := World.block_lt_of_cell? _ _ h0
  unfold maxLen at hc2
  have HC := hd hc
  have HOK := hd hok
  clear hc hok
  go_enter Tryz.func101, Tryz.ntmps101
  go_wp2
  go_loopw [4, 10] (fun _ i wr => ∃ k : Nat, k ≤ l.length ∧ i = .int .i64 k ∧ Below w.heap.size w wr) (fun _ i _ => l.length - (intOf i).toNat)
  case atStart => exact ⟨0, Nat.zero_le _, rfl, Below.refl _ _⟩
  case round =>
    obtain ⟨k, hk, rfl, hb⟩ := hrel
    by_cases hlt : k < l.length
    · obtain ⟨b, off, rfl, hbb, hcell⟩ := HC.out (by omega)
      obtain ⟨q1, q2⟩ := spc_getD l k hlt
      have hs0 : wr.cell? ⟨b, off + k * 2, none⟩ = some (.int .i64 (l.getD k (0, 0)).1) := (hb.cell (p := ⟨b, _, none⟩) hbb).trans ((hcell (k * 2) (by rw [spc_len]; omega)).trans q1)
      have hs1 : wr.cell? ⟨b, off + k * 2 + 1, none⟩ = some (.int .i64 (l.getD k (0, 0)).2) := (hb.cell (p := ⟨b, _, none⟩) hbb).trans ((hcell (k * 2 + 1) (by rw [spc_len]; omega)).trans q2)
      have HL := hd (HOK.out k hlt)
      have K0 := hd (fun o => cell_alloc_old (o := o) ((hb.cell (p := ⟨B, 0, none⟩) hBlt).trans h0))
      have K1 := hd (fun o => cell_alloc_old (o := o) ((hb.cell (p := ⟨B, 1, none⟩) hBlt).trans h1))
      clear hcell q1 q2 h0 h1
      generalize (l.getD k (0, 0)).1 = f at *
      generalize (l.getD k (0, 0)).2 = t at *
      go_wp2_with (go_at_call 102; refine (endsClo_ok _ _ n _ _ (K0.out _) (K1.out _) HL.out.1 HL.out.2).mono ?_; rintro e w' ⟨rfl, hb2⟩)
      go_roundw
      case rel => exact ⟨k + 1, by omega, by go_num, (hb.alloc hb.size _).trans (hb2.mono (by have := hb.size; simp; omega))⟩
      case measure => simp [intOf]; omega
    · go_wp2
      go_ret
      exact ⟨rfl, hb⟩

end Go.Proofs.YtkgkpcmokmhakaaGreatDoor

namespace Go.Proofs.YtkgkpcmokmhakaaGreatDoor
open Go.RowKit

set_option maxRecDepth 100000 in
theorem checkEnds_ok (nm : ByteArray) (st : Int) (lv gv : Value) (xs : List Value) (n : Nat) (l : List (Int × Int)) (w : World) (hl : Rd w w.heap.size lv n xs) (hg : Rd w w.heap.size gv l.length (spc l))
    (hok : ∀ j, j < l.length → 0 ≤ (l.getD j (0, 0)).1 ∧ (l.getD j (0, 0)).2 ≤ (n : Int)) :
    Calls Tryz.prog 73 #[.agg #[.string nm, .int .i64 st, lv, gv]] w fun e w' => e = .returned (.int .i64 0) ∧ Below w.heap.size w w' := by
  obtain ⟨A, c, rfl, hc1, hc2, -⟩ := hl
  have hg2 := hg
  obtain ⟨A2, c2, rfl, -, -, -⟩ := hg2
  have HG := hd hg
  have HOK := hd hok
  clear hg hok
  unfold maxLen at hc2
  go_enter Tryz.func73, Tryz.ntmps73
  go_wp2_with fail
  have hb1 : ∀ o o', Below w.heap.size w ((w.alloc o).alloc o') := fun o o' => ((Below.refl _ w).alloc (Nat.le_refl _) _).alloc (by simp) _
  refine (eachEnds_ok _ l n (w.heap.size + 1) _ ((HG.out.below (hb1 _ _) (Nat.le_refl _)).mono (by simp; omega)) ?_ ?_ HOK.out).mono ?_
  · have := World.cell?_alloc_new (w.alloc (.cells #[.string nm, .int .i64 st, .slice A n c, .slice A2 l.length c2] 35)) #[.int .i64 0, .int .i64 n] 50 0
    rw [World.size_alloc] at this; exact this
  · have := World.cell?_alloc_new (w.alloc (.cells #[.string nm, .int .i64 st, .slice A n c, .slice A2 l.length c2] 35)) #[.int .i64 0, .int .i64 n] 50 1
    rw [World.size_alloc] at this; exact this
  · rintro e w' ⟨rfl, hb2⟩
    go_wp2
    go_ret
    exact ⟨rfl, (hb1 _ _).trans (hb2.mono (by simp; omega))⟩

set_option maxRecDepth 100000 in
set_option maxHeartbeats 1000000 in
theorem isSilent_ok (nm : ByteArray) (st : Int) (lv gv : Value) (bs : List Nat) (l : List (Int × Int)) (w : World) (hl : Rd w w.heap.size lv bs.length (flc bs)) (hg : Rd w w.heap.size gv l.length (spc l))
    (hok : ∀ j, j < l.length → 0 ≤ (l.getD j (0, 0)).1 ∧ (l.getD j (0, 0)).1 < (l.getD j (0, 0)).2 ∧ (l.getD j (0, 0)).2 ≤ (bs.length : Int))
    (hs : ∀ j, j < l.length → ∀ i : Nat, (l.getD j (0, 0)).1 ≤ i → (i : Int) < (l.getD j (0, 0)).2 → (FloatKind.f32.format.order (bs.getD i 0) 0 != some .eq) = false) :
    Calls Tryz.prog 74 #[.agg #[.string nm, .int .i64 st, lv, gv]] w fun e w' => e = .returned (.bool true) ∧ Below w.heap.size w w' := by
  obtain ⟨A, c, rfl, hc1, hc2, hcl⟩ := hl
  obtain ⟨A2, c2, rfl, hc3, hc4, hcg⟩ := hg
  have HL := hd hcl
  have HG := hd hcg
  have HOK := hd hok
  have HS := hd hs
  clear hcl hcg hok hs
  unfold maxLen at hc2 hc4
  go_enter Tryz.func74, Tryz.ntmps74
  go_wp2
  have c2' := World.cell?_alloc_new w #[.string nm, .int .i64 st, .slice A bs.length c, .slice A2 l.length c2] 35 2
  have c3' := World.cell?_alloc_new w #[.string nm, .int .i64 st, .slice A bs.length c, .slice A2 l.length c2] 35 3
  have hsz : w.heap.size < (w.alloc (Obj.cells #[.string nm, .int .i64 st, .slice A bs.length c, .slice A2 l.length c2] 35)).heap.size := by simp
  have hb1 : Below w.heap.size w (w.alloc (Obj.cells #[.string nm, .int .i64 st, .slice A bs.length c, .slice A2 l.length c2] 35)) := (Below.refl _ w).alloc (Nat.le_refl _) _
  generalize (w.alloc (Obj.cells #[.string nm, .int .i64 st, .slice A bs.length c, .slice A2 l.length c2] 35)) = W1 at c2' c3' hsz hb1 ⊢
  have k2 : W1.cell? ⟨w.heap.size, 2, none⟩ = some (.slice A bs.length c) := by simpa using c2'
  have k3 : W1.cell? ⟨w.heap.size, 3, none⟩ = some (.slice A2 l.length c2) := by simpa using c3'
  clear c2' c3'
  go_step3
  go_wp2
  go_step3
  go_wp2
  go_loopw [3, 11] (fun s i wr => ∃ k : Nat, k ≤ l.length ∧ i = .int .i64 k ∧ s = .bool true ∧ Below W1.heap.size W1 wr) (fun _ i _ => l.length - (intOf i).toNat)
  case atStart => exact ⟨0, Nat.zero_le _, rfl, rfl, Below.refl _ _⟩
  case round =>
    obtain ⟨k, hk, rfl, rfl, hb⟩ := hrel
    by_cases hlt : k < l.length
    · obtain ⟨b2, off2, rfl, hbb2, hcell2⟩ := HG.out (by omega)
      obtain ⟨q1, q2⟩ := spc_getD l k hlt
      obtain ⟨o1, o2, o3⟩ := HOK.out k hlt
      have hs := HS.out k hlt
      have bw : ∀ b o, b < w.heap.size → wr.cell? ⟨b, o, none⟩ = w.cell? ⟨b, o, none⟩ := fun b o hlt => (hb.cell (p := ⟨b, o, none⟩) (Nat.lt_trans hlt hsz)).trans (hb1.cell (p := ⟨b, o, none⟩) hlt)
      have hs0 := (bw b2 _ hbb2).trans ((hcell2 (k * 2) (by rw [spc_len]; omega)).trans q1)
      have hs1 := (bw b2 _ hbb2).trans ((hcell2 (k * 2 + 1) (by rw [spc_len]; omega)).trans q2)
      rw [← Nat.add_assoc] at hs1
      clear hcell2 q1 q2
      generalize (l.getD k (0, 0)).1 = f at *
      generalize (l.getD k (0, 0)).2 = t at *
      obtain ⟨f, rfl⟩ := Int.eq_ofNat_of_zero_le o1
      obtain ⟨t, rfl⟩ := Int.eq_ofNat_of_zero_le (show 0 ≤ t by omega)
      have o2' : f < t := by omega
      have o3' : t ≤ bs.length := by omega
      obtain ⟨b, off, rfl, hbb, hcell⟩ := HL.out (by omega)
      have hcl : ∀ o j, j < t - f → (wr.alloc o).cell? ⟨b, off + f + j, none⟩ = some (.float .f32 (bs.getD (f + j) 0)) ∧ (FloatKind.f32.format.order (bs.getD (f + j) 0) 0 != some .eq) = false := fun o j hj => by
        refine ⟨cell_alloc_old ((bw b _ hbb).trans ?_), hs (f + j) (by omega) (by omega)⟩
        rw [show off + f + j = off + (f + j) by omega, hcell (f + j) (by simp [flc]; omega)]
        simp [flc, show f + j < bs.length by omega]
      have HCL := hd hcl
      have HBW := hd bw
      have K2 := fun o => cell_alloc_old (o := o) ((hb.cell (p := ⟨w.heap.size, 2, none⟩) hsz).trans k2)
      have KSZ := hb.size
      clear hcl bw hcell hs k2 o1
      go_wp2
      have H0 := HCL.out (Obj.cells #[Value.int .i64 f, Value.int .i64 t] 50)
      have hb' : Below W1.heap.size W1 (wr.alloc (Obj.cells #[Value.int .i64 f, Value.int .i64 t] 50)) := hb.alloc hb.size _
      generalize (wr.alloc (Obj.cells #[Value.int .i64 f, Value.int .i64 t] 50)) = W3 at *
      have HZ := hd H0
      clear H0 K2 KSZ hs0 hs1
      go_loop [3, 23] (fun s i => ∃ j : Nat, j ≤ t - f ∧ i = .int .i64 j ∧ s = .bool true) (fun _ i => (t - f) - (intOf i).toNat)
      case atStart => exact ⟨0, Nat.zero_le _, rfl, rfl⟩
      case round =>
        obtain ⟨j, hj, rfl, rfl⟩ := hrel
        by_cases hjt : j < t - f
        · obtain ⟨hx, hz⟩ := HZ.out j hjt
          generalize bs.getD (f + j) 0 = x at hx hz
          go_wp2
          go_round
          case rel => exact ⟨j + 1, by omega, by go_num, rfl⟩
          case measure => simp [intOf]; omega
        · go_wp2
          go_roundw
          case rel => exact ⟨k + 1, by omega, by go_num, rfl, hb'⟩
          case measure => simp [intOf]; omega
    · go_wp2
      rw [Exit.noGoto_ret]
      go_ret
      exact ⟨rfl, hb1.trans (hb.mono hb1.size)⟩

end Go.Proofs.YtkgkpcmokmhakaaGreatDoor
