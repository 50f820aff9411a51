/-
  GaugeSets for every pair of lists of spans and each tick.
-/
import Derived.Test.YtmcgkpfbehlpcaaGreatDoorProg
import Derived.Test.YtmcgkpfbehlpcaaGreatDoorH4
namespace Go.Proofs.YtmcgkpfbehlpcaaGreatDoor
open Go.RowKit

theorem chk_choice (kp : Bool → Bool → Bool) (h0 : kp false false = false) (a b : List (Int × Int)) (ha : chkSpans a = 0) (hb : chkSpans b = 0) (hl : (choice kp a b).length ≤ 2048) : chkSpans (choice kp a b) = 0 := by
  obtain ⟨h1, h2, _⟩ := choice_all kp h0 a b ha hb
  exact chk_can _ h1 h2 hl

theorem op2_join (a b : List (Int × Int)) (h0a : chkSpans a = 0) (h0b : chkSpans b = 0) (hl : (choice (fun x y => x || y) a b).length ≤ 2048) : Op2 25 a b (choice (fun x y => x || y) a b) :=
  fun W s1 s2 h1 h2 => (join_any s1 s2 a b W h1 h2 h0a h0b).mono fun _ _ h => got_of hl h
theorem op2_meet (a b : List (Int × Int)) (h0a : chkSpans a = 0) (h0b : chkSpans b = 0) (hl : (choice (fun x y => x && y) a b).length ≤ 2048) : Op2 27 a b (choice (fun x y => x && y) a b) :=
  fun W s1 s2 h1 h2 => (meet_any s1 s2 a b W h1 h2 h0a h0b).mono fun _ _ h => got_of hl h
theorem op2_minus (a b : List (Int × Int)) (h0a : chkSpans a = 0) (h0b : chkSpans b = 0) (hl : (choice (fun x y => x && !y) a b).length ≤ 2048) : Op2 28 a b (choice (fun x y => x && !y) a b) :=
  fun W s1 s2 h1 h2 => (minus_any s1 s2 a b W h1 h2 h0a h0b).mono fun _ _ h => got_of hl h

theorem sets_any (HA : Hid Awake) (sa sb : Value) (a b : List (Int × Int)) (t : Int) (w : World) (ra : Rd w w.heap.size sa a.length (spc a)) (rb : Rd w w.heap.size sb b.length (spc b)) (fa : Full sa) (fb : Full sb) (ht : 0 ≤ t ∧ t ≤ 65535) :
    Calls Tryz.prog 5 #[sa, sb, .int .u16 t] w fun e w' => e = .returned (.bool true) ∧ Below w.heap.size w w' := by
  by_cases hn : 12 < a.length ∨ 12 < b.length
  · obtain ⟨A1, c1, rfl, -⟩ := ra
    obtain ⟨A2, c2, rfl, -⟩ := rb
    exact sets_many HA A1 A2 _ c1 _ c2 t w hn
  · by_cases hc : ¬ chkSpans a = 0 ∨ ¬ chkSpans b = 0
    · exact sets_bad HA sa sb a b t w ra rb (by omega) (by omega) hc
    · have h0a : chkSpans a = 0 := by
        by_cases h : chkSpans a = 0
        · exact h
        · exact absurd (.inl h) hc
      have h0b : chkSpans b = 0 := by
        by_cases h : chkSpans b = 0
        · exact h
        · exact absurd (.inr h) hc
      have lJ := choice_len (fun x y => x || y) a b
      have lM := choice_len (fun x y => x && y) a b
      have lD := choice_len (fun x y => x && !y) a b
      have hJ : choice (fun x y => x || y) a b = choice (fun x y => x || y) b a := choice_comm _ rfl (fun x y => Bool.or_comm x y) a b h0a h0b
      have hM : choice (fun x y => x && y) a b = choice (fun x y => x && y) b a := choice_comm _ rfl (fun x y => Bool.and_comm x y) a b h0a h0b
      have hZ := choice_none a h0a
      have oK := op2_join b a h0b h0a (by rw [← hJ]; omega)
      have oN := op2_meet b a h0b h0a (by rw [← hM]; omega)
      have oZ := op2_minus a a h0a h0a (by rw [hZ]; exact Nat.zero_le _)
      rw [← hJ] at oK
      rw [← hM] at oN
      rw [hZ] at oZ
      exact sets_main HA sa sb a b _ _ _ t w ra rb fa fb (by omega) (by omega) h0a h0b ht
        (hd (op2_join a b h0a h0b (by omega))) (hd (op2_meet a b h0a h0b (by omega))) (hd (op2_minus a b h0a h0b (by omega))) (hd oK) (hd oN) (hd oZ)
        (chk_choice _ rfl a b h0a h0b (by omega)) (chk_choice _ rfl a b h0a h0b (by omega)) (chk_choice _ rfl a b h0a h0b (by omega)) (by omega) (by omega) (by omega)
        (hd (choice_all _ rfl a b h0a h0b).2.2) (hd (choice_all _ rfl a b h0a h0b).2.2) (hd (choice_all _ rfl a b h0a h0b).2.2)
end Go.Proofs.YtmcgkpfbehlpcaaGreatDoor
