/-
  Contract of the reference's sweep over marked ticks. Conditions: both lists are canonical, and the wanted marks are those of a choice that takes no tick that is in no list.
-/
import Derived.Test.YtmcgkpfbehlpcaaGreatDoorProg
import Derived.Test.YtmcgkpfbehlpcaaGreatDoorN1
import Derived.Test.YtmcgkpfbehlpcaaGreatDoorH4
import Derived.OwnWalk
namespace Go.Proofs.YtmcgkpfbehlpcaaGreatDoor
open Go.RowKit
attribute [local go_sem] Oper.semAt_some

theorem spc_snoc' (l : List (Int × Int)) (f t : Int) : spc l ++ [.int .i64 f, .int .i64 t] = spc (l ++ [(f, t)]) := by simp [spc]

set_option maxRecDepth 1000000 in
set_option maxHeartbeats 8000000 in
theorem picked_any (sa sb sw : Value) (a b : List (Int × Int)) (W : List Int) (kp : Bool → Bool → Bool) (w : World) (ha : Rd w w.heap.size sa a.length (spc a)) (hb : Rd w w.heap.size sb b.length (spc b)) (hw : Rd w w.heap.size sw W.length (W.map (Value.int .i64)))
    (h0a : chkSpans a = 0) (h0b : chkSpans b = 0) (hW : Wants W kp) (h0 : kp false false = false) :
    Calls Tryz.prog 66 #[sa, sb, sw] w (OwnsSp w.heap.size (choice kp a b) w) := by
  obtain ⟨i0, hi, hz0, hz1, hz2⟩ := info_parts intInfo
  obtain ⟨j0, hj, hy0, hy1, hy2⟩ := info_parts spanInfo
  obtain ⟨N, hN⟩ : ∃ N : Nat, N = 100001 := ⟨_, rfl⟩
  have hN' : (100001 : Int) = (N : Int) := by omega
  have HN := hd hN'
  have HJ := hd (And.intro hj (And.intro hy0 (And.intro hy1 hy2)))
  have HBY := hd (show i0.bytes * N ≤ 281474976710656 by rw [hz2]; omega)
  have HMX := hd (show N ≤ maxLen by unfold maxLen; omega)
  have HA := hd ha
  have HB := hd hb
  have HW := hd hw
  have HS := hd (show (∀ s ∈ a, 0 ≤ s.1 ∧ s.1 < s.2 ∧ s.2 ≤ (N : Int)) ∧ (∀ s ∈ b, 0 ≤ s.1 ∧ s.1 < s.2 ∧ s.2 ≤ (N : Int)) from
    ⟨fun s hs => by have := (chkSpans_ok a h0a).2.1 s hs; omega, fun s hs => by have := (chkSpans_ok b h0b).2.1 s hs; omega⟩)
  have HNN := hd (show N ≤ 1000000 by omega)
  have HF := hd (fun u => wants_at hW a b u)
  have HZ := hd (fun u (h : mm a b u = 0) => show pkF kp a b u = false from by
    have h' := mm_is a b u
    rw [h] at h'
    unfold pkF
    cases h1 : hasL a u <;> cases h2 : hasL b u <;> simp [h1, h2] at h' ⊢
    exact h0)
  have HE := hd (show (pk (pkF kp a b) N).1 = choice kp a b from by
    have e : N = (N - 1) + 1 := by omega
    rw [e]
    exact pick_is kp h0 a b h0a h0b (N - 1) (by omega))
  obtain ⟨A1, c1, rfl, -⟩ := ha
  obtain ⟨A2, c2, rfl, -⟩ := hb
  obtain ⟨A3, c3, rfl, -⟩ := hw
  clear h0a h0b hW h0 hN' hN hj hy0 hy1 hy2
  go_enter Tryz.func66, Tryz.ntmps66
  go_wp2_with (at_make; refine wpList_make_full _ rfl _ _ 59 rfl w.heap.size 3 i0 (.int .i64 0) 1 Tryz.underlying59 hi hz0 hz1 .i64 .i64 (100001 : Int) (100001 : Int) N rfl rfl HN.out HN.out HBY.out HMX.out (Nat.le_refl _) ?_; intro w5 hown5 hgrow5; have HO5 := hd (And.intro hown5 hgrow5); clear hown5 hgrow5)
  have HO := hd (show w5.ownsRow w.heap.size 3 1 (.slice (some ⟨w.heap.size, 0, none⟩) N N) N ((mkL N (fun _ => 0)).map (Value.int .i64)) ∧ Below w.heap.size w w5 from by
    obtain ⟨h1, h2⟩ := HO5.out
    refine ⟨?_, (Below.refl _ w).grown h2 (Nat.le_refl _) (fun _ h => by cases h)⟩
    have e : (madeCells (Value.int .i64 0).cells (N * 1)).toList = List.replicate N (Value.int .i64 0) := by
      rw [show (Value.int .i64 0).cells = #[Value.int .i64 0] from rfl, toList_madeCells_one]; simp
    rw [mkL_zero, ← e]; exact h1)
  clear HO5
  go_wp2_with fail
  refine (marks_any _ a 1 N w.heap.size w.heap.size (fun _ => 0) w5 (HA.out.below HO.out.2 (Nat.le_refl _)) HS.out.1 HNN.out HO.out.1 (fun _ => .inl ⟨rfl, rfl⟩)).mono ?_
  rintro e w6 ⟨rfl, ho6, hb6⟩
  have HO6 := hd (And.intro ho6 (HO.out.2.trans hb6))
  clear ho6 hb6 HO
  go_wp2_with fail
  refine (marks_any _ b 2 N w.heap.size w.heap.size _ w6 (HB.out.below HO6.out.2 (Nat.le_refl _)) HS.out.2 HNN.out HO6.out.1 (fun u => .inr ⟨rfl, by unfold stM; split; exact .inr rfl; exact .inl rfl⟩)).mono ?_
  rintro e w7 ⟨rfl, ho7, hb7⟩
  have HO7 := hd (show w7.ownsRow w.heap.size 3 1 (.slice (some ⟨w.heap.size, 0, none⟩) N N) N ((mkL N (mm a b)).map (Value.int .i64)) ∧ Below w.heap.size w w7 from And.intro ho7 (HO6.out.2.trans hb7))
  clear ho7 hb7 HO6
  go_wp2
  go_loopw [8, 9, 10] (fun o fr t wr => ∃ k : Nat, k ≤ N ∧ t = .int .i64 k ∧ fr = .int .i64 (pk (pkF kp a b) k).2 ∧ Hid (wr.ownsRow w.heap.size 27 2 o (pk (pkF kp a b) k).1.length (spc (pk (pkF kp a b) k).1)) ∧ Hid (wr.ownsRow w.heap.size 3 1 (.slice (some ⟨w.heap.size, 0, none⟩) N N) N ((mkL N (mm a b)).map (Value.int .i64)) ∧ Below w.heap.size w wr)) (fun _ _ t _ => N - (intOf t).toNat)
  case atStart => exact ⟨0, Nat.zero_le _, rfl, rfl, hd (World.ownsRow_nil _ _ _ _), HO7⟩
  case round =>
    obtain ⟨k, hk, rfl, rfl, HO, HM⟩ := hrel
    clear HO7
    obtain ⟨A5, c5, hv5, -⟩ := own_form HO.out
    subst hv5
    by_cases hlt : k < N
    · have hk1 : (k : Int) ≤ 100000 := by have := HN.out; omega
      have hkN : (k : Int) < (N : Int) := by omega
      have q0 := HM.out.1.cellAt k (by omega)
      rw [mkL_at N _ k hlt] at q0
      have HK := hd (show pk (pkF kp a b) (k + 1) = stp (pkF kp a b k) k (pk (pkF kp a b) k) from rfl)
      have hfk := HF.out k
      have hzk := HZ.out k
      have hpk := (pk_ok (pkF kp a b) k)
      obtain ⟨-, -, hp1, hp2, -⟩ := hpk
      have hpl := pk_len (pkF kp a b) k
      have hw3 : Rd wr wr.heap.size (.slice A3 W.length c3) W.length (W.map (Value.int .i64)) := (HW.out.below HM.out.2 (Nat.le_refl _)).mono HM.out.2.size
      generalize mm a b k = x at q0 hfk hzk
      generalize hin : pkF kp a b k = bk at hfk hzk HK
      clear hin
      generalize pk (pkF kp a b) k = p at *
      obtain ⟨L, fr⟩ := p
      dsimp only at *
      have HW3 := hd hw3
      have HPL := hd (show L.length + 1 ≤ maxLen by unfold maxLen; omega)
      have HPB := hd (show (L.length + 1) * 16 ≤ 140737488355328 by omega)
      clear hw3 hpl
      have CI := hasInt_any (.slice A3 W.length c3) W x wr HW3.out
      rw [hfk] at CI
      have HCI := hd CI
      clear CI hfk
      by_cases hx0 : x = 0
      · obtain rfl : bk = false := hzk hx0
        subst hx0
        by_cases hfr : fr < 0
        · have HKe := hd (show pk (pkF kp a b) (k + 1) = (L, fr) from by rw [HK.out]; simp [stp, hfr])
          clear HK hzk
          go_wp2
          go_roundw
          case rel => exact ⟨k + 1, by omega, by go_num, by rw [HKe.out], by rw [HKe.out]; exact HO, HM⟩
          case measure => simp [intOf]; omega
        · have hfr0 : 0 ≤ fr := by omega
          have HKe := hd (show pk (pkF kp a b) (k + 1) = (L ++ [(fr, (k : Int))], -1) from by rw [HK.out]; simp [stp, hfr])
          clear HK hzk
          go_wp2_with (at_builtin; refine wpList_append_own _ rfl (.tmp 48) (.tmp 52) 23 rfl w.heap.size 27 j0 (.agg #[.int .i64 0, .int .i64 0]) 2 16 Tryz.underlying23 HJ.out.1 HJ.out.2.1 HJ.out.2.2.1 HJ.out.2.2.2 rfl (by decide) (.slice A5 L.length c5) L.length (spc L) rfl ?c0 ⟨wr.heap.size, 0, none⟩ 1 1 [.int .i64 fr, .int .i64 k] rfl rfl ?c1 ?c2 ?c3 ?c4 ?c5 ?_)
          case c0 => exact HO.out.alloc _
          case c2 => first | exact ⟨rfl, rfl⟩ | exact one_spc [(fr, (k : Int))]
          case c3 => exact HPL.out
          case c4 => exact HPB.out
          case c5 => have := HM.out.2.size; first | omega | (simp; omega)
          intro v' w8 hown8 hg8 _
          have HO8 := hd (show w8.ownsRow w.heap.size 27 2 v' (L ++ [(fr, (k : Int))]).length (spc (L ++ [(fr, (k : Int))])) from by rw [← spc_snoc', List.length_append]; exact hown8)
          have HM8 := hd (And.intro ((HM.out.1.alloc _).kept hg8 (own_ne HM.out.1 HO.out (by decide))) ((HM.out.2.alloc HM.out.2.size _).trans (gb_below hg8 (HM.out.2.alloc HM.out.2.size _).size (fun kk hk => (HO.out.lt kk hk).1))))
          clear hown8 hg8 HO HM
          go_wp2
          go_roundw
          case rel => exact ⟨k + 1, by omega, by go_num, by rw [HKe.out], by rw [HKe.out]; exact HO8, HM8⟩
          case measure => simp [intOf]; omega
      · have hx1 : (x != 0) = true := by simpa using hx0
        clear hx0
        cases bk
        · by_cases hfr : fr < 0
          · have HKe := hd (show pk (pkF kp a b) (k + 1) = (L, fr) from by rw [HK.out]; simp [stp, hfr])
            clear HK hzk
            go_wp2_with (go_at_call 109; refine HCI.out.mono ?_; rintro e w' ⟨rfl, rfl⟩)
            go_roundw
            case rel => exact ⟨k + 1, by omega, by go_num, by rw [HKe.out], by rw [HKe.out]; exact HO, HM⟩
            case measure => simp [intOf]; omega
          · have hfr0 : 0 ≤ fr := by omega
            have HKe := hd (show pk (pkF kp a b) (k + 1) = (L ++ [(fr, (k : Int))], -1) from by rw [HK.out]; simp [stp, hfr])
            clear HK hzk
            go_wp2_with fail
            refine HCI.out.mono ?_
            rintro e w' ⟨rfl, rfl⟩
            go_wp2_with (at_builtin; refine wpList_append_own _ rfl (.tmp 48) (.tmp 52) 23 rfl w.heap.size 27 j0 (.agg #[.int .i64 0, .int .i64 0]) 2 16 Tryz.underlying23 HJ.out.1 HJ.out.2.1 HJ.out.2.2.1 HJ.out.2.2.2 rfl (by decide) (.slice A5 L.length c5) L.length (spc L) rfl ?c0 ⟨wr.heap.size, 0, none⟩ 1 1 [.int .i64 fr, .int .i64 k] rfl rfl ?c1 ?c2 ?c3 ?c4 ?c5 ?_)
            case c0 => exact HO.out.alloc _
            case c2 => first | exact ⟨rfl, rfl⟩ | exact one_spc [(fr, (k : Int))]
            case c3 => exact HPL.out
            case c4 => exact HPB.out
            case c5 => have := HM.out.2.size; first | omega | (simp; omega)
            intro v' w8 hown8 hg8 _
            have HO8 := hd (show w8.ownsRow w.heap.size 27 2 v' (L ++ [(fr, (k : Int))]).length (spc (L ++ [(fr, (k : Int))])) from by rw [← spc_snoc', List.length_append]; exact hown8)
            have HM8 := hd (And.intro ((HM.out.1.alloc _).kept hg8 (own_ne HM.out.1 HO.out (by decide))) ((HM.out.2.alloc HM.out.2.size _).trans (gb_below hg8 (HM.out.2.alloc HM.out.2.size _).size (fun kk hk => (HO.out.lt kk hk).1))))
            clear hown8 hg8 HO HM
            go_wp2
            go_roundw
            case rel => exact ⟨k + 1, by omega, by go_num, by rw [HKe.out], by rw [HKe.out]; exact HO8, HM8⟩
            case measure => simp [intOf]; omega
        · by_cases hfr : fr < 0
          · have HKe := hd (show pk (pkF kp a b) (k + 1) = (L, (k : Int)) from by rw [HK.out]; simp [stp, hfr])
            clear HK hzk
            go_wp2_with (go_at_call 109; refine HCI.out.mono ?_; rintro e w' ⟨rfl, rfl⟩)
            go_roundw
            case rel => exact ⟨k + 1, by omega, by go_num, by rw [HKe.out], by rw [HKe.out]; exact HO, HM⟩
            case measure => simp [intOf]; omega
          · have HKe := hd (show pk (pkF kp a b) (k + 1) = (L, fr) from by rw [HK.out]; simp [stp, hfr])
            clear HK hzk
            go_wp2_with (go_at_call 109; refine HCI.out.mono ?_; rintro e w' ⟨rfl, rfl⟩)
            go_roundw
            case rel => exact ⟨k + 1, by omega, by go_num, by rw [HKe.out], by rw [HKe.out]; exact HO, HM⟩
            case measure => simp [intOf]; omega
    · have hke : k = N := by omega
      subst hke
      have hk1 : ¬ (k : Int) ≤ 100000 := by have := HN.out; omega
      have HO9 := hd (show wr.ownsRow w.heap.size 27 2 (.slice A5 (pk (pkF kp a b) k).1.length c5) (choice kp a b).length (spc (choice kp a b)) from by rw [← HE.out]; exact HO.out)
      go_wp2
      go_returns
      exact ⟨_, rfl, HO9.out, HM.out.2⟩
end Go.Proofs.YtmcgkpfbehlpcaaGreatDoor
