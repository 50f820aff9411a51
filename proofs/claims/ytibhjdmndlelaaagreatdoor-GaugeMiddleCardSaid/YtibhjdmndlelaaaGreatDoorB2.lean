/-
  The statements' levels and record: copies of their own. Conditions: at most 100000 levels and gaps.
  What holds behind a step of a region that draws where its boxes are made: plain lemmas. Conditions: written at each.
-/
import Derived.Test.YtibhjdmndlelaaaGreatDoorProg
import Derived.Test.YtibhjdmndlelaaaGreatDoorMK
import Derived.Test.YtibhjdmndlelaaaGreatDoorH2
import Derived.Test.YtibhjdmndlelaaaGreatDoorMR
import Derived.Deep.RegionHeld3
import Derived.Test.YtibhjdmndlelaaaGreatDoorMS
import Derived.Test.YtibhjdmndlelaaaGreatDoorML

namespace Go.Proofs.YtibhjdmndlelaaaGreatDoor
open Go.RowKit
attribute [local go_sem] Oper.semAt_some

set_option maxRecDepth 1000000 in
set_option maxHeartbeats 2000000 in
theorem lawLevels_some (ad : Addr) (c : Nat) (l : List Nat) (w : World) (hcell : ∀ j u, (flc l)[j]? = some u → w.cell? (ad.add j) = some u) (hn : l.length ≤ 100000) :
    Calls Tryz.prog 48 #[.slice (some ad) l.length c] w (OwnsFl w.heap.size l w) := by
  obtain ⟨i0, hi, hz0, hz1, hz2⟩ := info_parts floatInfo
  have h63 : 0 + l.length ≤ maxLen := by unfold maxLen; omega
  have hby : (0 + l.length) * 4 ≤ 140737488355328 := by omega
  have H63 := hd h63
  have HBY := hd hby
  have hcell2 : ∀ o j u, (flc l)[j]? = some u → (w.alloc o).cell? (ad.add j) = some u := fun o j u hu => by
    have h1 := hcell j u hu
    rw [World.cell?_alloc_lt w o _ (World.block_lt_of_cell? _ _ h1)]
    exact h1
  have HC := hd hcell2
  clear h63 hby hn hcell hcell2
  go_enter Tryz.func48, Tryz.ntmps48
  go_wp2_with (at_builtin; refine wpList_append_own _ rfl (.tmp 3) (.tmp 4) 22 rfl w.heap.size 41 i0 (.float .f32 0) 1 4 Tryz.underlying22 hi hz0 hz1 hz2 rfl (by decide) (.slice (some ⟨w.heap.size, 0, none⟩) 0 0) 0 [] rfl ?c0 ad l.length c (flc l) rfl ?c00 ?c1 ?c2 ?c3 ?c4 ?c5 ?_)
  case c0 => exact World.ownsRow_lit w #[] 0 (Nat.le_refl _) (by decide) rfl
  case c00 => simp [flc]
  case c1 => exact HC.out _
  case c2 => exact one_flc l
  case c3 => exact H63.out
  case c4 => exact HBY.out
  case c5 => simp
  · intro v' w' hown' hgrow hne
    have HO := hd hown'
    have HG := hd hgrow
    clear hown' hgrow hne
    go_wp2
    go_ret
    exact ⟨v', rfl, by simpa using HO.out, ((Below.refl _ w).alloc (Nat.le_refl _) _).grown HG.out (by simp) (fun k hk => by simp [Value.ownBlock] at hk; omega)⟩

set_option maxRecDepth 1000000 in
theorem lawLevels_nil (w : World) : Calls Tryz.prog 48 #[.slice none 0 0] w (OwnsFl w.heap.size [] w) := by
  obtain ⟨i0, hi, hz0, hz1, hz2⟩ := info_parts floatInfo
  go_enter Tryz.func48, Tryz.ntmps48
  go_wp2_with (at_builtin; refine wpList_append_own_none rfl (.tmp 3) (.tmp 4) 22 rfl w.heap.size 41 i0 1 Tryz.underlying22 hi (.slice (some ⟨w.heap.size, 0, none⟩) 0 0) 0 [] rfl (World.ownsRow_lit w #[] 0 (Nat.le_refl _) (by decide) rfl) rfl ?_)
  go_ret
  exact ⟨_, rfl, World.ownsRow_lit w #[] 0 (Nat.le_refl _) (by decide) rfl, (Below.refl _ w).alloc (Nat.le_refl _) _⟩

theorem lawLevels_any (sl : Value) (l : List Nat) (w : World) (h : Rd w w.heap.size sl l.length (flc l)) (hF : Full sl) (hn : l.length ≤ 100000) :
    Calls Tryz.prog 48 #[sl] w (OwnsFl w.heap.size l w) := by
  obtain ⟨A, c, rfl, hc1, hc2, hc⟩ := h
  rcases Nat.eq_zero_or_pos l.length with h0 | h0
  · obtain rfl : l = [] := List.eq_nil_of_length_eq_zero h0
    cases A with
    | some ad => exact lawLevels_some ad c [] w (fun j u hu => by simp [flc] at hu) hn
    | none =>
      rcases hF with h | ⟨_, _, _, h⟩
      · rw [h]; exact lawLevels_nil w
      · cases h
  · obtain ⟨b, off, rfl, -, hcell⟩ := hc h0
    refine lawLevels_some _ c l w (fun j u hu => ?_) hn
    have hj : j < (flc l).length := (List.getElem?_eq_some_iff.1 hu).1
    have e : (⟨b, off, none⟩ : Addr).add j = ⟨b, off + j, none⟩ := by unfold Addr.add; split <;> simp_all
    rw [e, hcell j hj, hu]

/-- A record that was copied. -/
def Recd (nm : ByteArray) (st : Int) (bs : List Nat) (gs : List (Int × Int)) (w : World) (e : Ending) (w' : World) : Prop :=
  ∃ lv gv, e = .returned (.agg #[.string nm, .int .i64 st, lv, gv]) ∧ Rd w' w'.heap.size lv bs.length (flc bs) ∧ Rd w' w'.heap.size gv gs.length (spc gs) ∧ Full lv ∧ Full gv ∧ Below w.heap.size w w'

set_option maxRecDepth 1000000 in
set_option maxHeartbeats 4000000 in
theorem lawRecord_any (nm : ByteArray) (st : Int) (lv gv : Value) (bs : List Nat) (gs : List (Int × Int)) (w : World) (hl : Rd w w.heap.size lv bs.length (flc bs)) (hg : Rd w w.heap.size gv gs.length (spc gs)) (fl : Full lv) (fg : Full gv) (hn : bs.length ≤ 100000) (hm : gs.length ≤ 100000) :
    Calls Tryz.prog 9 #[.agg #[.string nm, .int .i64 st, lv, gv]] w (Recd nm st bs gs w) := by
  have HLr := hd hl
  have HGr := hd hg
  have FL := hd fl
  have FG := hd fg
  have HN := hd (And.intro hn hm)
  obtain ⟨A, c, rfl, -⟩ := hl
  obtain ⟨A2, c2, rfl, -⟩ := hg
  clear fl fg hn hm
  go_enter Tryz.func9, Tryz.ntmps9
  go_wp2_with fail
  obtain ⟨W2, hW2⟩ : ∃ W2, W2 = (w.alloc (.cells #[.string nm, .int .i64 st, .slice A bs.length c, .slice A2 gs.length c2] 25)).alloc (.cells #[.string ⟨#[]⟩, .int .i64 0, .slice none 0 0, .slice none 0 0] 30) := ⟨_, rfl⟩
  have hs2 : W2.heap.size = w.heap.size + 2 := by rw [hW2]; simp
  have hb0 : Below w.heap.size w W2 := by rw [hW2]; exact ((Below.refl _ w).alloc (Nat.le_refl _) _).alloc (by simp) _
  have HRA := hd (show W2.heap[w.heap.size]? = some (.cells #[.string nm, .int .i64 st, .slice A bs.length c, .slice A2 gs.length c2] 25 (0, 0)) by rw [hW2, Below.heap_alloc _ _ _ (by simp)]; exact blk_new _ _ _)
  have HRB := hd (show W2.heap[w.heap.size + 1]? = some (.cells #[.string ⟨#[]⟩, .int .i64 0, .slice none 0 0, .slice none 0 0] 30 (0, 0)) by
    have h1 := blk_new (w.alloc (.cells #[.string nm, .int .i64 st, .slice A bs.length c, .slice A2 gs.length c2] 25)) #[.string ⟨#[]⟩, .int .i64 0, .slice none 0 0, .slice none 0 0] 30
    simp only [World.size_alloc] at h1
    rw [hW2]; exact h1)
  rw [← hW2]
  clear hW2
  have n0 := blk_cell HRA.out 0
  have n1 := blk_cell HRA.out 1
  have n2 := blk_cell HRA.out 2
  have n3 := blk_cell HRA.out 3
  simp at n0 n1 n2 n3
  have HCL := hd (fun (W : World) (hb : Below W2.heap.size W2 W) => lawLevels_any (.slice A bs.length c) bs W ((HLr.out.below (hb0.trans (hb.mono hb0.size)) (Nat.le_refl _)).mono (hb0.trans (hb.mono hb0.size)).size) FL.out HN.out.1)
  have HCS := hd (fun (W : World) (hb : Below W2.heap.size W2 W) => lawSpans_any (.slice A2 gs.length c2) gs W ((HGr.out.below (hb0.trans (hb.mono hb0.size)) (Nat.le_refl _)).mono (hb0.trans (hb.mono hb0.size)).size) FG.out HN.out.2)
  have HB0 := hd hb0
  have hwW : w.heap.size < W2.heap.size := by omega
  have hwW2 : w.heap.size + 1 < W2.heap.size := by omega
  clear hb0
  go_region_held3 (fun x => x.cell? ⟨w.heap.size, 0, none⟩ = some (.string nm) ∧ x.cell? ⟨w.heap.size, 1, none⟩ = some (.int .i64 st) ∧ x.cell? ⟨w.heap.size, 2, none⟩ = some (.slice A bs.length c) ∧ x.cell? ⟨w.heap.size, 3, none⟩ = some (.slice A2 gs.length c2)) (go_keep)
        (first
          | (go_at_call 48; refine (HCL.out _ ((Below.refl _ W2).drew)).mono ?_; rintro e w4 ⟨v4, rfl, hown4, hb4⟩; obtain ⟨A4, c4, hv4, -⟩ := own_form hown4; subst hv4; have hW4 : Below W2.heap.size W2 w4 := ((Below.refl _ W2).drew).trans hb4; have hr4 := (hW4.block _ hwW).trans HRA.out; have N0 := blk_cell hr4 0; have N1 := blk_cell hr4 1; have N2 := blk_cell hr4 2; have N3 := blk_cell hr4 3; simp at N0 N1 N2 N3; have HW4 := hd hW4; have HO4 := hd (show w4.ownsRow W2.heap.size 41 1 (.slice A4 bs.length c4) bs.length (flc bs) from hown4); clear n0 n1 n2 n3 hr4 hW4 hown4 hb4)
          | (go_at_call 49; refine (HCS.out _ HW4.out).mono ?_; rintro e w5 ⟨v5, rfl, hown5, hb5⟩; obtain ⟨A5, c5, hv5, -⟩ := own_form hown5; subst hv5; have hW5 : Below W2.heap.size W2 w5 := HW4.out.trans (hb5.mono HW4.out.size); have hr5 := (hW5.block _ hwW).trans HRA.out; have M0 := blk_cell hr5 0; have M1 := blk_cell hr5 1; have M2 := blk_cell hr5 2; have M3 := blk_cell hr5 3; simp at M0 M1 M2 M3; have hq5 := (hW5.block _ hwW2).trans HRB.out; have p0 := blk_cell hq5 0; have p1 := blk_cell hq5 1; have p2 := blk_cell hq5 2; have p3 := blk_cell hq5 3; simp at p0 p1 p2 p3; have f0 := blk_frozen hq5 0; have f1 := blk_frozen hq5 1; have f2 := blk_frozen hq5 2; have f3 := blk_frozen hq5 3; have HO5 := hd (And.intro (own_bel HO4.out hb5) hown5); have HW5 := hd (And.intro hW5 hq5); clear N0 N1 N2 N3 hr5 hW5 hown5 hb5 hq5))
  have hq := set4_blk HW5.out.2 (.string nm) (.int .i64 st) (.slice A4 bs.length c4) (.slice A5 gs.length c5)
  have z0 := blk_cell hq 0
  have z1 := blk_cell hq 1
  have z2 := blk_cell hq 2
  have z3 := blk_cell hq 3
  simp at z0 z1 z2 z3
  have HL5 := hd (rd_of_own (own_set4 (R := w.heap.size + 1) (a := .string nm) (b := .int .i64 st) (c := .slice A4 bs.length c4) (d := .slice A5 gs.length c5) HO5.out.1 (by omega)))
  have HG5 := hd (rd_of_own (own_set4 (R := w.heap.size + 1) (a := .string nm) (b := .int .i64 st) (c := .slice A4 bs.length c4) (d := .slice A5 gs.length c5) HO5.out.2 (by have := HW4.out.size; omega)))
  have HF5 := hd (And.intro (full_own HO5.out.1) (full_own HO5.out.2))
  have HB5 := hd (set4_below (HB0.out.trans (HW5.out.1.mono HB0.out.size)) (R := w.heap.size + 1) (by omega) (.string nm) (.int .i64 st) (.slice A4 bs.length c4) (.slice A5 gs.length c5))
  change Exit.then _ _ _ _ (set4 w5 (w.heap.size + 1) (.string nm) (.int .i64 st) (.slice A4 bs.length c4) (.slice A5 gs.length c5))
  clear HO5 HW5 HW4 HO4 f0 f1 f2 f3 p0 p1 p2 p3 M0 M1 M2 M3 hq
  generalize set4 w5 (w.heap.size + 1) (.string nm) (.int .i64 st) (.slice A4 bs.length c4) (.slice A5 gs.length c5) = W6 at *
  go_wp2
  exact bodyPost_ret (v := .agg #[.string nm, .int .i64 st, .slice A4 bs.length c4, .slice A5 gs.length c5]) (by simp [results, Tryz.results9, go_sem, z0, z1, z2, z3]) rfl ⟨_, _, rfl, HL5.out, HG5.out, HF5.out.1, HF5.out.2, HB5.out⟩
end Go.Proofs.YtibhjdmndlelaaaGreatDoor

namespace Go.Proofs.YtibhjdmndlelaaaGreatDoor
open Go.RowKit

def GotV (nm : ByteArray) (st a0 a1 a2 : Int) (XL : List Nat) (XG : List (Int × Int)) (w : World) (e : Ending) (w' : World) : Prop :=
  ∃ lv gv, e = .returned (.tuple #[.agg #[.string nm, .int .i64 st, lv, gv], .agg #[.int .i64 a0, .int .i64 a1, .int .i64 a2], .int .i64 0]) ∧ w'.ownsRow w.heap.size 41 1 lv XL.length (flc XL) ∧ w'.ownsRow w.heap.size 50 2 gv XG.length (spc XG) ∧ Below w.heap.size w w'
theorem blk_ne {W : World} {a b : Nat} {x y : Array Value} {s t : TypeId} (h : W.heap[a]? = some (.cells x s (0, 0))) (h' : W.heap[b]? = some (.cells y t (0, 0))) (hne : s ≠ t) : a ≠ b := fun e => by
  rw [e, h'] at h
  injection h with h
  injection h with h1 h2
  exact hne h2.symm
theorem own_far3 {W : World} {B e s k R : Nat} {v a b c : Value} {xs : List Value} (h : W.ownsRow B e s v k xs) (hX : v.ownBlock = none ∨ v.ownBlock ≠ some R) : (set3 W R a b c).ownsRow B e s v k xs :=
  own_far (own_far (own_far h hX) hX) hX
/-- Two boxes behind V: which blocks they are, what they hold. -/
structure GE (V : World) (P Q : Nat) (rs js : Array Value) (Z : World) : Prop where
  bel : Below V.heap.size V Z
  blr : Z.heap[P]? = some (.cells rs 30 (0, 0))
  bli : Z.heap[Q]? = some (.cells js 31 (0, 0))
  hP : V.heap.size ≤ P
  hQ : V.heap.size ≤ Q
section
variable {V Z : World} {P Q : Nat} {rs js : Array Value} {x0 x1 x2 x3 y0 y1 y2 : Value}
theorem GE.ne (h : GE V P Q rs js Z) : P ≠ Q := blk_ne h.blr h.bli (by decide)
theorem GE.set4 (h : GE V P Q #[x0, x1, x2, x3] js Z) (a b c d : Value) : GE V P Q #[a, b, c, d] js (set4 Z P a b c d) :=
  ⟨set4_below h.bel h.hP _ _ _ _, set4_blk h.blr _ _ _ _, (set4_other Z (R := P) (D := Q) h.ne.symm _ _ _ _).trans h.bli, h.hP, h.hQ⟩
theorem GE.set3 (h : GE V P Q rs #[y0, y1, y2] Z) (a b c : Value) : GE V P Q rs #[a, b, c] (set3 Z Q a b c) :=
  ⟨set3_below h.bel h.hQ _ _ _, (set3_other Z (R := Q) (D := P) h.ne _ _ _).trans h.blr, set3_blk h.bli _ _ _, h.hP, h.hQ⟩
theorem GE.own4 (h : GE V P Q rs js Z) {B e s m : Nat} {v : Value} {xs : List Value} (o : Z.ownsRow B e s v m xs) (he : 30 ≠ e) (a b c d : Value) : (Go.Proofs.YtibhjdmndlelaaaGreatDoor.set4 Z P a b c d).ownsRow B e s v m xs := own_far4 o (own_box o h.blr he)
theorem GE.own3 (h : GE V P Q rs js Z) {B e s m : Nat} {v : Value} {xs : List Value} (o : Z.ownsRow B e s v m xs) (he : 31 ≠ e) (a b c : Value) : (Go.Proofs.YtibhjdmndlelaaaGreatDoor.set3 Z Q a b c).ownsRow B e s v m xs := own_far3 o (own_box o h.bli he)
theorem ge0 (hB : Below V.heap.size V Z) (hr : Z.heap[P]? = some (.cells rs 30 (0, 0))) (hi : Z.heap[Q]? = some (.cells js 31 (0, 0))) (hP : V.heap.size ≤ P) (hQ : V.heap.size ≤ Q) : GE V P Q rs js Z := ⟨hB, hr, hi, hP, hQ⟩
theorem ge1 (hB : Below V.heap.size V Z) (hr : Z.heap[P]? = some (.cells rs 30 (0, 0))) (hP : V.heap.size ≤ P) : GE V P Z.heap.size rs js (Z.alloc (.cells js 31)) := ⟨hB.alloc hB.size _, (Below.heap_alloc _ _ _ (blk_lt hr)).trans hr, blk_new _ _ _, hP, hB.size⟩
theorem ge2 (hB : Below V.heap.size V Z) (hi : Z.heap[Q]? = some (.cells js 31 (0, 0))) (hQ : V.heap.size ≤ Q) : GE V Z.heap.size Q rs js (Z.alloc (.cells rs 30)) := ⟨hB.alloc hB.size _, blk_new _ _ _, (Below.heap_alloc _ _ _ (blk_lt hi)).trans hi, hB.size, hQ⟩
theorem ge3a (hB : Below V.heap.size V Z) : GE V Z.heap.size (Z.heap.size + 1) rs js ((Z.alloc (.cells rs 30)).alloc (.cells js 31)) :=
  ⟨(hB.alloc hB.size _).alloc (Nat.le_trans hB.size (by simp)) _, (Below.heap_alloc _ _ _ (by simp)).trans (blk_new _ _ _), (by have h := blk_new (Z.alloc (.cells rs 30)) js 31; rw [World.size_alloc] at h; exact h), hB.size, Nat.le_succ_of_le hB.size⟩
theorem ge3b (hB : Below V.heap.size V Z) : GE V (Z.heap.size + 1) Z.heap.size rs js ((Z.alloc (.cells js 31)).alloc (.cells rs 30)) :=
  ⟨(hB.alloc hB.size _).alloc (Nat.le_trans hB.size (by simp)) _, (by have h := blk_new (Z.alloc (.cells js 31)) rs 30; rw [World.size_alloc] at h; exact h), (Below.heap_alloc _ _ _ (by simp)).trans (blk_new _ _ _), Nat.le_succ_of_le hB.size, hB.size⟩
theorem GE.allO {nm : ByteArray} {st : Int} {lv gv : Value} {b1 b2 n m : Nat} {xs ys : List Value} (h : GE V P Q #[.string nm, .int .i64 st, lv, gv] js Z) (o1 : Z.ownsRow b1 41 1 lv n xs) (o2 : Z.ownsRow b2 50 2 gv m ys) :
    Below V.heap.size V Z ∧ ∃ lv gv, Z.heap[P]? = some (.cells #[.string nm, .int .i64 st, lv, gv] 30 (0, 0)) ∧ Z.heap[Q]? = some (.cells js 31 (0, 0)) ∧ Rd Z Z.heap.size lv n xs ∧ Rd Z Z.heap.size gv m ys ∧ Full lv ∧ Full gv := ⟨h.bel, _, _, h.blr, h.bli, rd_of_own o1, rd_of_own o2, full_own o1, full_own o2⟩
end
theorem box4 {W : World} {g : Nat} {t : TypeId} {a0 a1 a2 a3 : Value} (h : W.heap[g]? = some (.cells #[a0, a1, a2, a3] t (0, 0))) : W.cell? ⟨g, 0, none⟩ = some a0 ∧ W.cell? ⟨g, 1, none⟩ = some a1 ∧ W.cell? ⟨g, 2, none⟩ = some a2 ∧ W.cell? ⟨g, 3, none⟩ = some a3 ∧ W.frozen? ⟨g, 0, none⟩ = false ∧ W.frozen? ⟨g, 1, none⟩ = false ∧ W.frozen? ⟨g, 2, none⟩ = false ∧ W.frozen? ⟨g, 3, none⟩ = false :=
  ⟨blk_cell h 0, blk_cell h 1, blk_cell h 2, blk_cell h 3, blk_frozen h 0, blk_frozen h 1, blk_frozen h 2, blk_frozen h 3⟩
theorem box3 {W : World} {g : Nat} {t : TypeId} {a0 a1 a2 : Value} (h : W.heap[g]? = some (.cells #[a0, a1, a2] t (0, 0))) : W.cell? ⟨g, 0, none⟩ = some a0 ∧ W.cell? ⟨g, 1, none⟩ = some a1 ∧ W.cell? ⟨g, 2, none⟩ = some a2 ∧ W.frozen? ⟨g, 0, none⟩ = false ∧ W.frozen? ⟨g, 1, none⟩ = false ∧ W.frozen? ⟨g, 2, none⟩ = false :=
  ⟨blk_cell h 0, blk_cell h 1, blk_cell h 2, blk_frozen h 0, blk_frozen h 1, blk_frozen h 2⟩
theorem box4o {W : World} {g : Nat} {t : TypeId} {a0 a1 a2 a3 : Value} (h : W.heap[g]? = some (.cells #[a0, a1, a2, a3] t (0, 0))) : (∀ o, (W.alloc o).cell? ⟨g, 0, none⟩ = some a0) ∧ (∀ o, (W.alloc o).cell? ⟨g, 1, none⟩ = some a1) ∧ (∀ o, (W.alloc o).cell? ⟨g, 2, none⟩ = some a2) ∧ (∀ o, (W.alloc o).cell? ⟨g, 3, none⟩ = some a3) ∧ (∀ o, (W.alloc o).frozen? ⟨g, 0, none⟩ = false) ∧ (∀ o, (W.alloc o).frozen? ⟨g, 1, none⟩ = false) ∧ (∀ o, (W.alloc o).frozen? ⟨g, 2, none⟩ = false) ∧ (∀ o, (W.alloc o).frozen? ⟨g, 3, none⟩ = false) := by
  have ho := fun o => (Below.heap_alloc W o g (blk_lt h)).trans h
  exact ⟨fun o => blk_cell (ho o) 0, fun o => blk_cell (ho o) 1, fun o => blk_cell (ho o) 2, fun o => blk_cell (ho o) 3, fun o => blk_frozen (ho o) 0, fun o => blk_frozen (ho o) 1, fun o => blk_frozen (ho o) 2, fun o => blk_frozen (ho o) 3⟩
theorem box3o {W : World} {g : Nat} {t : TypeId} {a0 a1 a2 : Value} (h : W.heap[g]? = some (.cells #[a0, a1, a2] t (0, 0))) : (∀ o, (W.alloc o).cell? ⟨g, 0, none⟩ = some a0) ∧ (∀ o, (W.alloc o).cell? ⟨g, 1, none⟩ = some a1) ∧ (∀ o, (W.alloc o).cell? ⟨g, 2, none⟩ = some a2) ∧ (∀ o, (W.alloc o).frozen? ⟨g, 0, none⟩ = false) ∧ (∀ o, (W.alloc o).frozen? ⟨g, 1, none⟩ = false) ∧ (∀ o, (W.alloc o).frozen? ⟨g, 2, none⟩ = false) := by
  have ho := fun o => (Below.heap_alloc W o g (blk_lt h)).trans h
  exact ⟨fun o => blk_cell (ho o) 0, fun o => blk_cell (ho o) 1, fun o => blk_cell (ho o) 2, fun o => blk_frozen (ho o) 0, fun o => blk_frozen (ho o) 1, fun o => blk_frozen (ho o) 2⟩
theorem ne_lt {W : World} {g : Nat} {o : Obj} (h : W.heap[g]? = some o) : g ≠ W.heap.size ∧ W.heap.size ≠ g ∧ g ≠ W.heap.size + 1 ∧ W.heap.size + 1 ≠ g := by have := blk_lt h; omega
theorem ne_two {a b : Nat} (h : a ≠ b) : a ≠ b ∧ b ≠ a := ⟨h, h.symm⟩
theorem ne_big {a b c : Nat} (h : a < b) (h' : b ≤ c) : c ≠ a ∧ a ≠ c := by omega
theorem ne_big2 {a b c : Nat} (h : a < b) (h' : b ≤ c) : c ≠ a ∧ a ≠ c ∧ c + 1 ≠ a ∧ a ≠ c + 1 := by omega
theorem up3 {c n : World} {u v : Value} {a b : Nat} {xs ys : List Value} (h : Rd c c.heap.size u a xs ∧ Rd c c.heap.size v b ys ∧ Full u) (hb : Below c.heap.size c n) : Rd n n.heap.size u a xs ∧ Rd n n.heap.size v b ys ∧ Full u :=
  ⟨(h.1.below hb (Nat.le_refl _)).mono hb.size, (h.2.1.below hb (Nat.le_refl _)).mono hb.size, h.2.2⟩
theorem af_1 {c n : World} {z : Array Value} {t : TypeId} (hb : Below (c.alloc (.cells z t)).heap.size (c.alloc (.cells z t)) n) : Below c.heap.size c n ∧ n.heap[c.heap.size]? = some (.cells z t (0, 0)) :=
  ⟨((Below.refl _ c).alloc (Nat.le_refl _) _).trans (hb.mono (by simp)), (hb.block _ (by simp)).trans (blk_new _ _ _)⟩
theorem af_2 {c n : World} {z z' : Array Value} {t t' : TypeId} (hb : Below ((c.alloc (.cells z t)).alloc (.cells z' t')).heap.size ((c.alloc (.cells z t)).alloc (.cells z' t')) n) : Below c.heap.size c n ∧ n.heap[c.heap.size]? = some (.cells z t (0, 0)) ∧ n.heap[c.heap.size + 1]? = some (.cells z' t' (0, 0)) :=
  ⟨(((Below.refl _ c).alloc (Nat.le_refl _) _).alloc (by simp) _).trans (hb.mono (by simp; omega)), (hb.block _ (by simp; omega)).trans ((Below.heap_alloc _ _ _ (by simp)).trans (blk_new _ _ _)), (hb.block _ (by simp)).trans (by have h := blk_new (c.alloc (.cells z t)) z' t'; rw [World.size_alloc] at h; exact h)⟩
theorem cells4 {W : World} {g : Nat} {t : TypeId} {a0 a1 a2 a3 : Value} (h : W.heap[g]? = some (.cells #[a0, a1, a2, a3] t (0, 0))) : W.cell? ⟨g, 0, none⟩ = some a0 ∧ W.cell? ⟨g, 1, none⟩ = some a1 ∧ W.cell? ⟨g, 2, none⟩ = some a2 ∧ W.cell? ⟨g, 3, none⟩ = some a3 :=
  ⟨blk_cell h 0, blk_cell h 1, blk_cell h 2, blk_cell h 3⟩
/-- A region of a text, by its number. -/
def regionOf (k : Nat) : Code → List Code
  | .region i os d => if i = k then [.region i os d] else []
  | .seq a b => regionOf k a ++ regionOf k b
  | .block _ c => regionOf k c
  | .scope c => regionOf k c
  | .cond _ a b => regionOf k a ++ regionOf k b
  | .loop c => regionOf k c
  | _ => []
/-- The outermost loops' rounds, in their order. -/
def loopsOf : Code → List Code
  | .loop c => [c]
  | .seq a b => loopsOf a ++ loopsOf b
  | .block _ c => loopsOf c
  | .scope c => loopsOf c
  | .cond _ a b => loopsOf a ++ loopsOf b
  | _ => []
set_option maxRecDepth 1000000 in
noncomputable def mR9 : Code := ((Tryz.f3.body.map (regionOf 9)).getD []).getD 0 .skip
set_option maxRecDepth 1000000 in
noncomputable def mR10 : Code := ((Tryz.f3.body.map (regionOf 10)).getD []).getD 0 .skip
set_option maxRecDepth 1000000 in
noncomputable def mR11 : Code := ((Tryz.f3.body.map (regionOf 11)).getD []).getD 0 .skip
set_option maxRecDepth 1000000 in
noncomputable def mR12 : Code := ((Tryz.f3.body.map (regionOf 12)).getD []).getD 0 .skip
set_option maxRecDepth 1000000 in
noncomputable def mL1 : Code := ((Tryz.f3.body.map loopsOf).getD []).getD 0 .skip
set_option maxRecDepth 1000000 in
noncomputable def mL2 : Code := ((Tryz.f3.body.map loopsOf).getD []).getD 1 .skip
noncomputable def mL3 : Code := (loopsOf mL2).getD 0 .skip
noncomputable def mL4 : Code := (loopsOf mL2).getD 1 .skip
theorem cells12 {W : World} {g : Nat} {t : TypeId} {a0 a1 a2 a3 a4 a5 a6 a7 a8 a9 a10 a11 : Value} (h : W.heap[g]? = some (.cells #[a0, a1, a2, a3, a4, a5, a6, a7, a8, a9, a10, a11] t (0, 0))) : W.cell? ⟨g, 0, none⟩ = some a0 ∧ W.cell? ⟨g, 1, none⟩ = some a1 ∧ W.cell? ⟨g, 2, none⟩ = some a2 ∧ W.cell? ⟨g, 3, none⟩ = some a3 ∧ W.cell? ⟨g, 4, none⟩ = some a4 ∧ W.cell? ⟨g, 5, none⟩ = some a5 ∧ W.cell? ⟨g, 6, none⟩ = some a6 ∧ W.cell? ⟨g, 7, none⟩ = some a7 ∧ W.cell? ⟨g, 8, none⟩ = some a8 ∧ W.cell? ⟨g, 9, none⟩ = some a9 ∧ W.cell? ⟨g, 10, none⟩ = some a10 ∧ W.cell? ⟨g, 11, none⟩ = some a11 :=
  ⟨blk_cell h 0, blk_cell h 1, blk_cell h 2, blk_cell h 3, blk_cell h 4, blk_cell h 5, blk_cell h 6, blk_cell h 7, blk_cell h 8, blk_cell h 9, blk_cell h 10, blk_cell h 11⟩
end Go.Proofs.YtibhjdmndlelaaaGreatDoor
