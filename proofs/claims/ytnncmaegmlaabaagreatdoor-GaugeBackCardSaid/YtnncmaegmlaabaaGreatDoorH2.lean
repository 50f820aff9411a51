/-
  Contracts of the statements' Has, CheckSpan, CheckSpans, ShortSpans and spans. Conditions: at most 100000 spans for spans.
  Contracts of the statements' CheckSpans (every list) and spans (at most 100000).
-/
import Derived.Test.YtnncmaegmlaabaaGreatDoorProg
import Derived.Test.YtnncmaegmlaabaaGreatDoorZ2
import Derived.Test.YtnncmaegmlaabaaGreatDoorMI
import Derived.Laws.AppendOwnNone

namespace Go.Proofs.YtnncmaegmlaabaaGreatDoor
open Go.RowKit

set_option maxRecDepth 1000000 in
set_option maxHeartbeats 2000000 in
theorem has_any (sl : Value) (l : List (Int × Int)) (t : Int) (w : World) (h : Rd w w.heap.size sl l.length (spc l)) :
    Calls Tryz.prog 58 #[sl, .int .i64 t] w fun e w' => e = .returned (.bool (hasL l t)) ∧ w = w' := by
  obtain ⟨A, c, rfl, hc1, hc2, hc⟩ := h
  unfold maxLen at hc2
  have HC := hd hc
  clear hc
  go_enter Tryz.func58, Tryz.ntmps58
  go_wp2
  go_loop [5] (fun i => ∃ k : Nat, k ≤ l.length ∧ i = .int .i64 k ∧ Hid (∀ s ∈ l.take k, ¬ (s.1 ≤ t ∧ t < s.2))) (fun i => l.length - (intOf i).toNat)
  case atStart => exact ⟨0, Nat.zero_le _, rfl, hd (fun s hs => by simp at hs)⟩
  case round =>
    obtain ⟨k, hk, rfl, HZ⟩ := hrel
    by_cases hlt : k < l.length
    · obtain ⟨b, off, rfl, hbb, hcell⟩ := HC.out (by omega)
      obtain ⟨g1, g2⟩ := spc_at l k hlt
      have hs0 : w.cell? ⟨b, off + k * 2, none⟩ = some (.int .i64 (l[k]).1) := (hcell (k * 2) (by rw [spc_len]; omega)).trans g1
      have hs1 : w.cell? ⟨b, off + k * 2 + 1, none⟩ = some (.int .i64 (l[k]).2) := (hcell (k * 2 + 1) (by rw [spc_len]; omega)).trans g2
      have HL := hd (List.take_succ_eq_append_getElem hlt)
      have HM := hd (List.getElem_mem hlt)
      clear hcell g1 g2
      generalize hf : l[k] = f at hs0 hs1
      have HF := hd hf
      clear hf
      have hnext : ¬ (f.1 ≤ t ∧ t < f.2) → Hid (∀ s ∈ l.take (k + 1), ¬ (s.1 ≤ t ∧ t < s.2)) := fun h s hs => by
        rw [HL.out, HF.out] at hs
        rcases List.mem_append.1 hs with hs | hs
        · exact HZ.out s hs
        · rw [List.mem_singleton] at hs; subst hs; exact h
      by_cases h1 : f.1 ≤ t
      · by_cases h2 : t < f.2
        · have HT := hd (show hasL l t = true from hasL_true.2 ⟨f, by rw [← HF.out]; exact HM.out, h1, h2⟩)
          clear hnext
          go_wp2
          go_ret
          exact ⟨by rw [HT.out]; rfl, rfl⟩
        · have HN := hnext (fun h => h2 h.2)
          clear hnext
          go_wp2
          go_round
          case rel => exact ⟨k + 1, by omega, by go_num, HN⟩
          case measure => simp [intOf]; omega
      · have HN := hnext (fun h => h1 h.1)
        clear hnext
        go_wp2
        go_round
        case rel => exact ⟨k + 1, by omega, by go_num, HN⟩
        case measure => simp [intOf]; omega
    · have hke : k = l.length := by omega
      have HT := hd (show hasL l t = false from hasL_false.2 (by have := HZ.out; rwa [hke, List.take_length] at this))
      clear hke
      go_wp2
      go_ret
      exact ⟨by rw [HT.out]; rfl, rfl⟩

theorem refChkSpan_any (f t : Int) (w : World) : Calls Tryz.prog 111 #[.agg #[.int .i64 f, .int .i64 t]] w fun e w' => e = .returned (.int .i64 (chkSpan f t)) ∧ Below w.heap.size w w' := by
  by_cases h1 : 0 ≤ f
  · by_cases h2 : f < t
    · by_cases h3 : t ≤ 100000
      · have E := hd (show chkSpan f t = 0 by simp [chkSpan, h1, h2, h3])
        go_enter Tryz.func111, Tryz.ntmps111
        go_wp2
        go_returns
        exact ⟨(by rw [E.out]; first | done | rfl), by go_grown⟩
      · have E := hd (show chkSpan f t = 14 by simp [chkSpan, h3])
        go_enter Tryz.func111, Tryz.ntmps111
        go_wp2
        go_returns
        exact ⟨(by rw [E.out]; first | done | rfl), by go_grown⟩
    · have E := hd (show chkSpan f t = 14 by simp [chkSpan, h2])
      go_enter Tryz.func111, Tryz.ntmps111
      go_wp2
      go_returns
      exact ⟨(by rw [E.out]; first | done | rfl), by go_grown⟩
  · have E := hd (show chkSpan f t = 14 by simp [chkSpan, h1])
    go_enter Tryz.func111, Tryz.ntmps111
    go_wp2
    go_returns
    exact ⟨(by rw [E.out]; first | done | rfl), by go_grown⟩

theorem shortSpans_any (A : Option Addr) (n c : Nat) (k : Int) (w : World) :
    Calls Tryz.prog 40 #[.slice A n c, .int .i64 k] w fun e w' => e = .returned (.bool (decide ((n : Int) ≤ k) || decide (n = 2049))) ∧ w = w' := by
  by_cases h1 : (n : Int) ≤ k
  · have E := hd (show (decide ((n : Int) ≤ k) || decide (n = 2049)) = true by simp [h1])
    go_enter Tryz.func40, Tryz.ntmps40
    go_wp2
    go_ret
    exact ⟨by rw [E.out]; rfl, rfl⟩
  · by_cases h2 : n = 2049
    · have E := hd (show (decide ((n : Int) ≤ k) || decide (n = 2049)) = true by simp [h2])
      have h2' : ((n : Int) == 2049) = true := by rw [beq_iff_eq]; omega
      clear h2
      go_enter Tryz.func40, Tryz.ntmps40
      go_wp2
      go_ret
      exact ⟨by rw [E.out]; rfl, rfl⟩
    · have E := hd (show (decide ((n : Int) ≤ k) || decide (n = 2049)) = false by simp [h1, h2])
      have h2' : ((n : Int) == 2049) = false := by rw [beq_eq_false_iff_ne]; omega
      clear h2
      go_enter Tryz.func40, Tryz.ntmps40
      go_wp2
      go_ret
      exact ⟨by rw [E.out]; rfl, rfl⟩
end Go.Proofs.YtnncmaegmlaabaaGreatDoor

namespace Go.Proofs.YtnncmaegmlaabaaGreatDoor
open Go.RowKit

set_option maxRecDepth 1000000 in
set_option maxHeartbeats 4000000 in
theorem refChkSpans_any (sl : Value) (l : List (Int × Int)) (w : World) (h : Rd w w.heap.size sl l.length (spc l)) :
    Calls Tryz.prog 57 #[sl] w fun e w' => e = .returned (.int .i64 (chkSpans l)) ∧ Below w.heap.size w w' := by
  obtain ⟨A, c, rfl, hc1, hc2, hc⟩ := h
  unfold maxLen at hc2
  have HC := hd hc
  clear hc
  by_cases hmany : 2048 < l.length
  · have hm' : (2048 : Int) < (l.length : Int) := by omega
    have E := hd (show chkSpans l = 5 by rw [chkSpans, if_pos hmany])
    go_enter Tryz.func57, Tryz.ntmps57
    go_wp2
    go_ret
    exact ⟨by rw [E.out]; rfl, Below.refl _ _⟩
  · have hm' : ¬ (2048 : Int) < (l.length : Int) := by omega
    have E := hd (show chkSpans l = chkFrom (-1) l by rw [chkSpans, if_neg hmany])
    go_enter Tryz.func57, Tryz.ntmps57
    go_wp2
    go_loopw [3] (fun i wr => ∃ (k : Nat) (m : Int), k ≤ l.length ∧ i = .int .i64 k ∧ Hid (chkFrom (-1) l = chkFrom m (l.drop k) ∧ (k = 0 → m = -1) ∧ (0 < k → m = (l.getD (k - 1) (0, 0)).2)) ∧ Below w.heap.size w wr) (fun i _ => l.length - (intOf i).toNat)
    case atStart => exact ⟨0, -1, Nat.zero_le _, rfl, hd ⟨rfl, fun _ => rfl, fun h => absurd h (by omega)⟩, Below.refl _ _⟩
    case round =>
      obtain ⟨k, m, hk, rfl, HZ, hb⟩ := hrel
      by_cases hlt : k < l.length
      · obtain ⟨b, off, rfl, hbb, hcell⟩ := HC.out (by omega)
        obtain ⟨g1, g2⟩ := spc_at l k hlt
        have hs0 : wr.cell? ⟨b, off + k * 2, none⟩ = some (.int .i64 (l[k]).1) := (hb.cell (p := ⟨b, _, none⟩) hbb).trans ((hcell (k * 2) (by rw [spc_len]; omega)).trans g1)
        have hs1 : wr.cell? ⟨b, off + k * 2 + 1, none⟩ = some (.int .i64 (l[k]).2) := (hb.cell (p := ⟨b, _, none⟩) hbb).trans ((hcell (k * 2 + 1) (by rw [spc_len]; omega)).trans g2)
        have hp1 : 0 < k → wr.cell? ⟨b, off + (k - 1) * 2 + 1, none⟩ = some (.int .i64 m) := fun h0 => by
          rw [HZ.out.2.2 h0]
          exact (hb.cell (p := ⟨b, _, none⟩) hbb).trans ((hcell ((k - 1) * 2 + 1) (by rw [spc_len]; omega)).trans (spc_getD l (k - 1) (by omega)).2)
        have hL : l.drop k = l[k] :: l.drop (k + 1) := List.drop_eq_getElem_cons hlt
        have hG : (l.getD (k + 1 - 1) (0, 0)).2 = (l[k]).2 := by simp [hlt]
        generalize hf : (l[k]).1 = f at hs0
        generalize ht : (l[k]).2 = t at hs1 hG
        have hstep : chkFrom m (l.drop k) = if chkSpan f t ≠ 0 then chkSpan f t else if m < f then chkFrom t (l.drop (k + 1)) else 11 := by rw [hL, chkFrom, hf, ht]
        have HSt := hd hstep
        have HG := hd hG
        have hfs : chkSpan f t = 0 ∨ chkSpan f t = 14 := by unfold chkSpan; split <;> simp
        have hf0 : chkSpan f t = 0 → 0 ≤ f := by unfold chkSpan; split <;> intro h <;> omega
        have hbs : b < wr.heap.size := by have := hb.size; omega
        have Hs0 := hd hs0
        have Hp1 := hd hp1
        clear hcell g1 g2 hL hf ht hstep hG hp1
        by_cases hcs : chkSpan f t = 0
        · have hf0' := hf0 hcs
          have HCS := hd hcs
          have HCk := hd (fun W : World => show Calls Tryz.prog 111 #[.agg #[.int .i64 f, .int .i64 t]] W fun e w' => e = .returned (.int .i64 0) ∧ Below W.heap.size W w' from by
            have := refChkSpan_any f t W
            rwa [hcs] at this)
          clear hcs hfs hf0
          go_wp2_with fail
          refine (HCk.out _).mono ?_
          rintro e w2 ⟨rfl, hb2⟩
          have hs0' : w2.cell? ⟨b, off + k * 2, none⟩ = some (.int .i64 f) := (hb2.cell (p := ⟨b, _, none⟩) hbs).trans Hs0.out
          have HB2 := hd (hb.trans (hb2.mono hb.size))
          by_cases hk0 : k = 0
          · have hd0 : decide (0 < k) = false := by simp; omega
            have HN := hd (show chkFrom (-1) l = chkFrom t (l.drop (k + 1)) by
              rw [HZ.out.1, HSt.out, if_neg (by rw [HCS.out]; simp), if_pos (by rw [HZ.out.2.1 hk0]; omega)])
            clear hs0 hs1 hk0 hb2
            go_wp2_with fail
            go_quiet (fail)
            go_wp2
            go_roundw
            case rel => exact ⟨k + 1, t, by omega, by go_num, hd ⟨HN.out, fun h => absurd h (by omega), fun _ => HG.out.symm⟩, bel_dn HB2.out⟩
            case measure => simp [intOf]; omega
          · have hd0 : decide (0 < k) = true := by simp; omega
            have hp' : w2.cell? ⟨b, off + (k - 1) * 2 + 1, none⟩ = some (.int .i64 m) := (hb2.cell (p := ⟨b, _, none⟩) hbs).trans (Hp1.out (by omega))
            have hk1 : 1 ≤ k := by omega
            by_cases hlt2 : m < f
            · have HN := hd (show chkFrom (-1) l = chkFrom t (l.drop (k + 1)) by
                rw [HZ.out.1, HSt.out, if_neg (by rw [HCS.out]; simp), if_pos hlt2])
              clear hs0 hs1 hk0 hb2
              go_wp2_with fail
              go_quiet (fail)
              go_wp2
              go_roundw
              case rel => exact ⟨k + 1, t, by omega, by go_num, hd ⟨HN.out, fun h => absurd h (by omega), fun _ => HG.out.symm⟩, bel_dn HB2.out⟩
              case measure => simp [intOf]; omega
            · have HN := hd (show chkSpans l = 11 by
                rw [E.out, HZ.out.1, HSt.out, if_neg (by rw [HCS.out]; simp), if_neg hlt2])
              clear hs0 hs1 hk0 hb2
              go_wp2_with fail
              go_quiet (fail)
              go_wp2
              go_ret
              exact ⟨by rw [HN.out]; rfl, bel_dn HB2.out⟩
        · have h14 : chkSpan f t = 14 := by rcases hfs with h | h; exact absurd h hcs; exact h
          have HCk := hd (fun W : World => show Calls Tryz.prog 111 #[.agg #[.int .i64 f, .int .i64 t]] W fun e w' => e = .returned (.int .i64 14) ∧ Below W.heap.size W w' from by
            have := refChkSpan_any f t W
            rwa [h14] at this)
          have HN := hd (show chkSpans l = 14 by rw [E.out, HZ.out.1, HSt.out, h14, if_pos (by decide)])
          clear hcs hfs hf0 h14
          go_wp2_with fail
          refine (HCk.out _).mono ?_
          rintro e w2 ⟨rfl, hb2⟩
          have HB2 := hd (hb.trans (hb2.mono hb.size))
          clear hb2
          go_wp2
          go_ret
          exact ⟨by rw [HN.out]; rfl, HB2.out⟩
      · have hke : k = l.length := by omega
        have HN := hd (show chkSpans l = 0 by rw [E.out, HZ.out.1, hke, List.drop_length]; rfl)
        clear hke
        go_wp2
        go_ret
        exact ⟨by rw [HN.out]; rfl, hb⟩

set_option maxRecDepth 1000000 in
set_option maxHeartbeats 2000000 in
theorem lawSpans_some (ad : Addr) (c : Nat) (l : List (Int × Int)) (w : World) (hcell : ∀ j u, (spc l)[j]? = some u → w.cell? (ad.add j) = some u) (hn : l.length ≤ 100000) :
    Calls Tryz.prog 48 #[.slice (some ad) l.length c] w (OwnsSp w.heap.size l w) := by
  obtain ⟨i0, hi, hz0, hz1, hz2⟩ := info_parts spanInfo
  have h63 : 0 + l.length ≤ maxLen := by unfold maxLen; omega
  have hby : (0 + l.length) * 16 ≤ 140737488355328 := by omega
  have H63 := hd h63
  have HBY := hd hby
  have hcell2 : ∀ o j u, (spc l)[j]? = some u → (w.alloc o).cell? (ad.add j) = some u := fun o j u hu => by
    have h1 := hcell j u hu
    rw [World.cell?_alloc_lt w o _ (World.block_lt_of_cell? _ _ h1)]
    exact h1
  have HC := hd hcell2
  clear h63 hby hn hcell hcell2
  go_enter Tryz.func48, Tryz.ntmps48
  go_wp2_with (at_builtin; refine wpList_append_own _ rfl (.tmp 3) (.tmp 4) 23 rfl w.heap.size 63 i0 (.agg #[.int .i64 0, .int .i64 0]) 2 16 Tryz.underlying23 hi hz0 hz1 hz2 rfl (by decide) (.slice (some ⟨w.heap.size, 0, none⟩) 0 0) 0 [] rfl ?c0 ad l.length c (spc l) rfl ?c00 ?c1 ?c2 ?c3 ?c4 ?c5 ?_)
  case c0 => exact World.ownsRow_lit w #[] 0 (Nat.le_refl _) (by decide) rfl
  case c00 => rw [spc_len]; omega
  case c1 => exact HC.out _
  case c2 => exact one_spc l
  case c3 => exact H63.out
  case c4 => exact HBY.out
  case c5 => simp
  · intro v' w' hown' hgrow hne
    have HO := hd hown'
    have HG := hd hgrow
    clear hown' hgrow hne
    go_wp2
    go_ret
    exact ⟨v', rfl, by simpa using HO.out, ((Below.refl _ w).alloc (Nat.le_refl _) _).grown HG.out (by simp) (fun k hk => by simp [Value.ownBlock] at hk; omega)⟩

/-- A slice value is nil, or it leads somewhere. -/
def Full (sl : Value) : Prop := sl = .slice none 0 0 ∨ ∃ ad n c, sl = .slice (some ad) n c
theorem full_own {w : World} {B : Nat} {e : TypeId} {size : Nat} {v : Value} {n : Nat} {xs : List Value} (h : w.ownsRow B e size v n xs) : Full v := by
  rcases h with ⟨_, ⟨rfl, _⟩ | ⟨g, cap, cur, rfl, _⟩⟩
  · exact .inl rfl
  · exact .inr ⟨_, _, _, rfl⟩

set_option maxRecDepth 1000000 in
theorem lawSpans_nil (w : World) : Calls Tryz.prog 48 #[.slice none 0 0] w (OwnsSp w.heap.size [] w) := by
  obtain ⟨i0, hi, hz0, hz1, hz2⟩ := info_parts spanInfo
  go_enter Tryz.func48, Tryz.ntmps48
  go_wp2_with (at_builtin; refine wpList_append_own_none rfl (.tmp 3) (.tmp 4) 23 rfl w.heap.size 63 i0 2 Tryz.underlying23 hi (.slice (some ⟨w.heap.size, 0, none⟩) 0 0) 0 [] rfl (World.ownsRow_lit w #[] 0 (Nat.le_refl _) (by decide) rfl) rfl ?_)
  go_ret
  exact ⟨_, rfl, World.ownsRow_lit w #[] 0 (Nat.le_refl _) (by decide) rfl, (Below.refl _ w).alloc (Nat.le_refl _) _⟩

theorem lawSpans_any (sl : Value) (l : List (Int × Int)) (w : World) (h : Rd w w.heap.size sl l.length (spc l)) (hF : Full sl) (hn : l.length ≤ 100000) :
    Calls Tryz.prog 48 #[sl] w (OwnsSp w.heap.size l w) := by
  obtain ⟨A, c, rfl, hc1, hc2, hc⟩ := h
  rcases Nat.eq_zero_or_pos l.length with h0 | h0
  · obtain rfl : l = [] := List.eq_nil_of_length_eq_zero h0
    cases A with
    | some ad => exact lawSpans_some ad c [] w (fun j u hu => by simp [spc] at hu) hn
    | none =>
      rcases hF with h | ⟨_, _, _, h⟩
      · rw [h]; exact lawSpans_nil w
      · cases h
  · obtain ⟨b, off, rfl, -, hcell⟩ := hc h0
    refine lawSpans_some _ c l w (fun j u hu => ?_) hn
    have hj : j < (spc l).length := (List.getElem?_eq_some_iff.1 hu).1
    have e : (⟨b, off, none⟩ : Addr).add j = ⟨b, off + j, none⟩ := by unfold Addr.add; split <;> simp_all
    rw [e, hcell j hj, hu]
end Go.Proofs.YtnncmaegmlaabaaGreatDoor
