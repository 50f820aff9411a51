/-
  GaugeSpans for every two lists of spans.
-/
import Derived.Test.YtmcgkpfbehlpcaaGreatDoorProg
import Derived.Test.YtmcgkpfbehlpcaaGreatDoorN5
namespace Go.Proofs.YtmcgkpfbehlpcaaGreatDoor
open Go.RowKit
attribute [local go_sem] Oper.semAt_some

set_option maxRecDepth 1000000 in
set_option maxHeartbeats 1000000 in
theorem refJoin_any (sa sb : Value) (a b : List (Int × Int)) (w : World) (ha : Rd w w.heap.size sa a.length (spc a)) (hb : Rd w w.heap.size sb b.length (spc b)) (h0a : chkSpans a = 0) (h0b : chkSpans b = 0) :
    Calls Tryz.prog 22 #[sa, sb] w (OwnsSp w.heap.size (choice (fun x y => x || y) a b) w) := by
  have hb0 := hd ((Below.refl w.heap.size w).alloc (Nat.le_refl _) (.cells #[.int .i64 1, .int .i64 2, .int .i64 3] 3))
  have RA := hd ((ha.below hb0.out (Nat.le_refl _)).mono hb0.out.size)
  have RB := hd ((hb.below hb0.out (Nat.le_refl _)).mono hb0.out.size)
  have RW := hd (Rd.new w #[.int .i64 1, .int .i64 2, .int .i64 3] 3 3 [.int .i64 1, .int .i64 2, .int .i64 3] rfl (by decide))
  have HZ := hd (And.intro h0a h0b)
  obtain ⟨A1, c1, rfl, -⟩ := ha
  obtain ⟨A2, c2, rfl, -⟩ := hb
  clear h0a h0b
  go_enter Tryz.func22, Tryz.ntmps22
  go_wp2_with fail
  refine (picked_any _ _ _ a b [1, 2, 3] _ _ RA.out RB.out RW.out HZ.out.1 HZ.out.2 wants_join rfl).mono ?_
  rintro e w1 ⟨v, rfl, hv, hbb⟩
  have HV := hd (And.intro (own_base hv hb0.out.size) (hb0.out.trans (hbb.mono hb0.out.size)))
  clear hv hbb
  go_wp2
  go_returns
  exact ⟨v, rfl, HV.out.1, HV.out.2⟩

set_option maxRecDepth 1000000 in
set_option maxHeartbeats 1000000 in
theorem refMeet_any (sa sb : Value) (a b : List (Int × Int)) (w : World) (ha : Rd w w.heap.size sa a.length (spc a)) (hb : Rd w w.heap.size sb b.length (spc b)) (h0a : chkSpans a = 0) (h0b : chkSpans b = 0) :
    Calls Tryz.prog 23 #[sa, sb] w (OwnsSp w.heap.size (choice (fun x y => x && y) a b) w) := by
  have hb0 := hd ((Below.refl w.heap.size w).alloc (Nat.le_refl _) (.cells #[.int .i64 3] 3))
  have RA := hd ((ha.below hb0.out (Nat.le_refl _)).mono hb0.out.size)
  have RB := hd ((hb.below hb0.out (Nat.le_refl _)).mono hb0.out.size)
  have RW := hd (Rd.new w #[.int .i64 3] 3 1 [.int .i64 3] rfl (by decide))
  have HZ := hd (And.intro h0a h0b)
  obtain ⟨A1, c1, rfl, -⟩ := ha
  obtain ⟨A2, c2, rfl, -⟩ := hb
  clear h0a h0b
  go_enter Tryz.func23, Tryz.ntmps23
  go_wp2_with fail
  refine (picked_any _ _ _ a b [3] _ _ RA.out RB.out RW.out HZ.out.1 HZ.out.2 wants_meet rfl).mono ?_
  rintro e w1 ⟨v, rfl, hv, hbb⟩
  have HV := hd (And.intro (own_base hv hb0.out.size) (hb0.out.trans (hbb.mono hb0.out.size)))
  clear hv hbb
  go_wp2
  go_returns
  exact ⟨v, rfl, HV.out.1, HV.out.2⟩

set_option maxRecDepth 1000000 in
set_option maxHeartbeats 1000000 in
theorem refMinus_any (sa sb : Value) (a b : List (Int × Int)) (w : World) (ha : Rd w w.heap.size sa a.length (spc a)) (hb : Rd w w.heap.size sb b.length (spc b)) (h0a : chkSpans a = 0) (h0b : chkSpans b = 0) :
    Calls Tryz.prog 24 #[sa, sb] w (OwnsSp w.heap.size (choice (fun x y => x && !y) a b) w) := by
  have hb0 := hd ((Below.refl w.heap.size w).alloc (Nat.le_refl _) (.cells #[.int .i64 1] 3))
  have RA := hd ((ha.below hb0.out (Nat.le_refl _)).mono hb0.out.size)
  have RB := hd ((hb.below hb0.out (Nat.le_refl _)).mono hb0.out.size)
  have RW := hd (Rd.new w #[.int .i64 1] 3 1 [.int .i64 1] rfl (by decide))
  have HZ := hd (And.intro h0a h0b)
  obtain ⟨A1, c1, rfl, -⟩ := ha
  obtain ⟨A2, c2, rfl, -⟩ := hb
  clear h0a h0b
  go_enter Tryz.func24, Tryz.ntmps24
  go_wp2_with fail
  refine (picked_any _ _ _ a b [1] _ _ RA.out RB.out RW.out HZ.out.1 HZ.out.2 wants_minus rfl).mono ?_
  rintro e w1 ⟨v, rfl, hv, hbb⟩
  have HV := hd (And.intro (own_base hv hb0.out.size) (hb0.out.trans (hbb.mono hb0.out.size)))
  clear hv hbb
  go_wp2
  go_returns
  exact ⟨v, rfl, HV.out.1, HV.out.2⟩

set_option maxRecDepth 1000000 in
set_option maxHeartbeats 4000000 in
theorem spans_many (HA : Hid Awake) (A1 A2 : Option Addr) (n1 c1 n2 c2 : Nat) (w : World) (h : (decide ((n1 : Int) ≤ 12) || decide (n1 = 2049)) = false ∨ (decide ((n2 : Int) ≤ 12) || decide (n2 = 2049)) = false) :
    Calls Tryz.prog 4 #[.slice A1 n1 c1, .slice A2 n2 c2] w fun e w' => e = .returned (.bool true) ∧ Below w.heap.size w w' := by
  have HB := hd (Below.refl w.heap.size w)
  cases h1 : (decide ((n1 : Int) ≤ 12) || decide (n1 = 2049))
  · have S1 := hd h1
    clear h h1
    go_enter Tryz.func4, Tryz.ntmps4
    go_wp2_with fail
    refine (HA.out _).mono ?_
    rintro e w1 ⟨rfl, hb⟩
    replace HB := hd (HB.out.trans (hb.mono (HB.out.size)))
    clear hb
    go_wp2_with fail
    refine (shortSpans_any _ n1 _ 12 _).mono ?_
    rw [S1.out]
    rintro e w' ⟨rfl, rfl⟩
    go_wp2_with fail
    refine (HA.out _).mono ?_
    rintro e w2 ⟨rfl, hb⟩
    replace HB := hd (HB.out.trans (hb.mono (HB.out.size)))
    clear hb
    go_wp2_with fail
    go_returns
    exact ⟨rfl, HB.out⟩
  · have h2 : (decide ((n2 : Int) ≤ 12) || decide (n2 = 2049)) = false := by
      rcases h with h | h
      · rw [h1] at h; cases h
      · exact h
    have S1 := hd h1
    have S2 := hd h2
    clear h h1 h2
    go_enter Tryz.func4, Tryz.ntmps4
    go_wp2_with fail
    refine (HA.out _).mono ?_
    rintro e w1 ⟨rfl, hb⟩
    replace HB := hd (HB.out.trans (hb.mono (HB.out.size)))
    clear hb
    go_wp2_with fail
    refine (shortSpans_any _ n1 _ 12 _).mono ?_
    rw [S1.out]
    rintro e w' ⟨rfl, rfl⟩
    go_wp2_with fail
    refine (shortSpans_any _ n2 _ 12 _).mono ?_
    rw [S2.out]
    rintro e w' ⟨rfl, rfl⟩
    go_wp2_with fail
    refine (HA.out _).mono ?_
    rintro e w2 ⟨rfl, hb⟩
    replace HB := hd (HB.out.trans (hb.mono (HB.out.size)))
    clear hb
    go_wp2_with fail
    go_returns
    exact ⟨rfl, HB.out⟩

theorem op3_of {f : FuncId} {a b l : List (Int × Int)} (h : Op2 f a b l) : Op3 f a b l 0 := fun W s1 s2 h1 h2 => (h W s1 s2 h1 h2).mono fun _ _ ⟨v, e, hr, _, hb⟩ => ⟨v, e, hr, hb⟩
theorem refused_got {x : Int} {w : World} {e : Ending} {w' : World} (h : Refused x w e w') : GotX [] x w e w' := ⟨_, h.1, Rd.nil _ _, h.2⟩
theorem short_len {n : Nat} (h : (decide ((n : Int) ≤ 12) || decide (n = 2049)) = true) : n ≤ 12 ∨ n = 2049 := by
  simp only [Bool.or_eq_true, decide_eq_true_eq] at h
  omega

theorem spans_any (HA : Hid Awake) (sa sb : Value) (a b : List (Int × Int)) (w : World) (ra : Rd w w.heap.size sa a.length (spc a)) (rb : Rd w w.heap.size sb b.length (spc b)) (fa : Full sa) (fb : Full sb) :
    Calls Tryz.prog 4 #[sa, sb] w fun e w' => e = .returned (.bool true) ∧ Below w.heap.size w w' := by
  cases s1 : (decide ((a.length : Int) ≤ 12) || decide (a.length = 2049))
  · obtain ⟨A1, c1, rfl, -⟩ := ra
    obtain ⟨A2, c2, rfl, -⟩ := rb
    exact spans_many HA A1 A2 _ c1 _ c2 w (.inl s1)
  · cases s2 : (decide ((b.length : Int) ≤ 12) || decide (b.length = 2049))
    · obtain ⟨A1, c1, rfl, -⟩ := ra
      obtain ⟨A2, c2, rfl, -⟩ := rb
      exact spans_many HA A1 A2 _ c1 _ c2 w (.inr s2)
    · have l1 := short_len s1
      have l2 := short_len s2
      by_cases hx : fst0 [chkSpans a, chkSpans b] = 0
      · have h0a : chkSpans a = 0 := by
          unfold fst0 at hx
          split at hx
          · assumption
          · rename_i h; exact absurd hx h
        have h0b : chkSpans b = 0 := by
          rw [h0a] at hx
          simp only [fst0, if_true] at hx
          split at hx
          · assumption
          · rename_i h; exact absurd hx h
        have := (chkSpans_ok a h0a).1
        have := (chkSpans_ok b h0b).1
        have lJ := choice_len (fun x y => x || y) a b
        have lM := choice_len (fun x y => x && y) a b
        have lD := choice_len (fun x y => x && !y) a b
        exact spans_good HA sa sb a b _ _ _ 0 w ra rb fa fb (by omega) (by omega) s1 s2 hx rfl
          (hd (op3_of (op2_join a b h0a h0b (by omega)))) (hd (op3_of (op2_meet a b h0a h0b (by omega)))) (hd (op3_of (op2_minus a b h0a h0b (by omega))))
          (hd fun W x y h1 h2 => refJoin_any x y a b W h1 h2 h0a h0b) (hd fun W x y h1 h2 => refMeet_any x y a b W h1 h2 h0a h0b) (hd fun W x y h1 h2 => refMinus_any x y a b W h1 h2 h0a h0b)
      · have hb : (fst0 [chkSpans a, chkSpans b] != 0) = true := by simpa using hx
        have he : (fst0 [chkSpans a, chkSpans b] == 0) = false := by simpa using hx
        exact spans_bad HA sa sb a b [] [] [] _ w ra rb fa fb (by omega) (by omega) s1 s2 rfl he
          (hd fun W x y h1 h2 => (join_bad x y a b _ W h1 h2 rfl hb).mono fun _ _ h => refused_got h) (hd fun W x y h1 h2 => (meet_bad x y a b _ W h1 h2 rfl hb).mono fun _ _ h => refused_got h) (hd fun W x y h1 h2 => (minus_bad x y a b _ W h1 h2 rfl hb).mono fun _ _ h => refused_got h)
          rfl rfl rfl
end Go.Proofs.YtmcgkpfbehlpcaaGreatDoor
