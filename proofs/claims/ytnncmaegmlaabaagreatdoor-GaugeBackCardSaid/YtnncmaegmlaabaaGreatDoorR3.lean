/-
  The walk of GaugeBack, at a valid record. Conditions: written at each.
  GaugeBack (P1.5, P1.6): records come back from their texts and streams; what is parsed is printed as it was; a text and a stream without the last byte, and a stream with a byte more, are none. Conditions: the row's own (the listed library tables as the program's text lays them, tied by the card).
-/
import Derived.Test.YtnncmaegmlaabaaGreatDoorProg
import Derived.Test.YtnncmaegmlaabaaGreatDoorYL
import Derived.Test.YtnncmaegmlaabaaGreatDoorYP
import Derived.Test.YtnncmaegmlaabaaGreatDoorAw
import Derived.Test.YtnncmaegmlaabaaGreatDoorS3
import Derived.Test.YtnncmaegmlaabaaGreatDoorET
import Derived.Test.YtnncmaegmlaabaaGreatDoorQ4
import Derived.Test.YtnncmaegmlaabaaGreatDoorQ5
import Derived.BigQuiet
import Derived.Lib.AppendZeros
import Derived.Test.YtnncmaegmlaabaaGreatDoorRows
import Derived.Test.YtnncmaegmlaabaaGreatDoorCards
import Derived.Test.YtnncmaegmlaabaaGreatDoorTie
import Derived.Test.YtnncmaegmlaabaaGreatDoorOpm
import Derived.Test.YtnncmaegmlaabaaGreatDoorYU
import Derived.Test.YtnncmaegmlaabaaGreatDoorSI
import Derived.Test.YtnncmaegmlaabaaGreatDoorS4
import Derived.Test.YtnncmaegmlaabaaGreatDoorM3
import Derived.Test.YtnncmaegmlaabaaGreatDoorQS
import Derived.SevenTiedAt
import Derived.HandedShaped
import Derived.Shelf.Vars
import Derived.LaidSub
import Derived.MakeChecks
import Derived.Lib.SmallJoins
import Derived.Lay

namespace Go.Proofs.YtnncmaegmlaabaaGreatDoor
open Go.RowKit
attribute [local go_sem] Oper.semAt_some

theorem box4r {W : World} {g : Nat} {t : TypeId} {a0 a1 a2 a3 : Value} (h : W.heap[g]? = some (.cells #[a0, a1, a2, a3] t (0, 0))) : W.cell? ⟨g, 0, none⟩ = some a0 ∧ W.cell? ⟨g, 1, none⟩ = some a1 ∧ W.cell? ⟨g, 2, none⟩ = some a2 ∧ W.cell? ⟨g, 3, none⟩ = some a3 ∧ W.frozen? ⟨g, 0, none⟩ = false ∧ W.frozen? ⟨g, 1, none⟩ = false ∧ W.frozen? ⟨g, 2, none⟩ = false ∧ W.frozen? ⟨g, 3, none⟩ = false :=
  ⟨blk_cell h 0, blk_cell h 1, blk_cell h 2, blk_cell h 3, blk_frozen h 0, blk_frozen h 1, blk_frozen h 2, blk_frozen h 3⟩
/-- What is behind a row's address, for an append of it. -/
theorem rd_newR {w : World} {B n c g o : Nat} {xs : List Value} (h : Rd w B (.slice (some ⟨g, o, none⟩) n c) n xs) (hl : xs.length = n) : ∀ j u, xs[j]? = some u → w.cell? ((⟨g, o, none⟩ : Addr).add j) = some u := by
  intro j u hu
  obtain ⟨A', c', e, -, -, h3⟩ := h
  have hj : j < xs.length := (List.getElem?_eq_some_iff.1 hu).1
  obtain ⟨b, off, hb, -, hc⟩ := h3 (by omega)
  injection e with e1
  rw [← e1] at hb
  injection hb with hb
  have ha : (⟨g, o, none⟩ : Addr).add j = ⟨g, o + j, none⟩ := by unfold Addr.add; split <;> simp_all
  injection hb with hb1 hb2
  subst hb1 hb2
  rw [ha, hc j hj, hu]
theorem rd_cut {w : World} {B N c g o : Nat} {xs : List Value} (h : Rd w B (.slice (some ⟨g, o, none⟩) N c) N xs) (hl : xs.length = N) (h1 : 1 ≤ N) : Rd w B (.slice (some ⟨g, o, none⟩) (N - 1) c) (N - 1) (xs.take (N - 1)) := by
  obtain ⟨A', c', e, h2, h3, h4⟩ := h
  injection e with e1 e2 e3
  subst e1 e3
  refine ⟨_, _, rfl, by omega, h3, fun h0 => ?_⟩
  obtain ⟨b, off, hb, hlt, hc⟩ := h4 (by omega)
  refine ⟨b, off, hb, hlt, fun j hj => ?_⟩
  rw [List.length_take] at hj
  rw [hc j (by omega), List.getElem?_take_of_lt (by omega)]
/-- A record and no error; the empty record and an error. -/
def ParsOk (nm : ByteArray) (st : Int) (tb : List Nat) (gs : List (Int × Int)) (w : World) (e : Ending) (w' : World) : Prop :=
  ∃ (A A2 : Option Addr) (c c2 : Nat), e = .returned (.tuple #[.agg #[.string nm, .int .i64 st, .slice A tb.length c, .slice A2 gs.length c2], .int .i64 0, .int .i64 0]) ∧ Below w.heap.size w w' ∧ Hid (Rd w' w'.heap.size (.slice A tb.length c) tb.length (flc tb)) ∧ Hid (Rd w' w'.heap.size (.slice A2 gs.length c2) gs.length (spc gs))
def DecOk (nm : ByteArray) (st : Int) (tb : List Nat) (gs : List (Int × Int)) (w : World) (e : Ending) (w' : World) : Prop :=
  ∃ (A A2 : Option Addr) (c c2 : Nat), e = .returned (.tuple #[.agg #[.string nm, .int .i64 st, .slice A tb.length c, .slice A2 gs.length c2], .int .i64 0]) ∧ Below w.heap.size w w' ∧ Hid (Rd w' w'.heap.size (.slice A tb.length c) tb.length (flc tb)) ∧ Hid (Rd w' w'.heap.size (.slice A2 gs.length c2) gs.length (spc gs))
def DecNo (E : Int) (w : World) (e : Ending) (w' : World) : Prop := e = .returned (.tuple #[.agg #[.string ⟨#[]⟩, .int .i64 0, .slice none 0 0, .slice none 0 0], .int .i64 E]) ∧ Below w.heap.size w w'

set_option maxRecDepth 1000000 in
set_option maxHeartbeats 16000000 in
theorem back_ok (HA : Hid Awake) (nm : ByteArray) (st : Int) (A A2 : Option Addr) (c c2 : Nat) (bs tb eb : List Nat) (gs : List (Int × Int)) (s code : ByteArray) (N : Nat) (xs : List Value) (w : World)
    (HL : Hid (Rd w w.heap.size (.slice A bs.length c) bs.length (flc bs))) (HG : Hid (Rd w w.heap.size (.slice A2 gs.length c2) gs.length (spc gs))) (FL : Hid (Full (.slice A bs.length c))) (FG : Hid (Full (.slice A2 gs.length c2)))
    (S1 : Hid (shortR nm.size bs.length gs.length = true)) (HN : Hid (bs.length ≤ 100000 ∧ gs.length ≤ 100000)) (hs : s.size ≤ 300) (hc3 : 3 ≤ code.size) (hc4 : code.size ≤ 100000) (hN1 : 17 ≤ N) (hN2 : N ≤ 499) (HX : Hid (xs.length = N)) (HXC : Hid (∀ u ∈ xs, u.oneCell' = true))
    (ST : Hid (sameF feqL 0 tb bs = true)) (SE : Hid (sameF feqL 0 eb bs = true))
    (CR : Hid (∀ (W : World) (lv gv : Value), Below w.heap.size w W → Rd W W.heap.size lv bs.length (flc bs) → Rd W W.heap.size gv gs.length (spc gs) → Calls Tryz.prog 11 #[.agg #[.string nm, .int .i64 st, lv, gv]] W fun e w' => e = .returned (.int .i64 0) ∧ Below W.heap.size W w'))
    (GE : Hid (∀ (W : World) (lv gv : Value), Below w.heap.size w W → Rd W W.heap.size lv bs.length (flc bs) → Rd W W.heap.size gv gs.length (spc gs) → Calls Tryz.prog 8 #[.agg #[.string nm, .int .i64 st, lv, gv]] W fun e w' => e = .returned (.tuple #[.string code, .int .i64 0]) ∧ Below W.heap.size W w'))
    (GD : Hid (∀ W : World, Below w.heap.size w W → Calls Tryz.prog 10 #[.string code] W (ParsOk nm st tb gs W)))
    (CE : Hid (∀ (W : World) (lv gv : Value), Below w.heap.size w W → Rd W W.heap.size lv bs.length (flc bs) → Rd W W.heap.size gv gs.length (spc gs) → Calls Tryz.prog 15 #[.agg #[.string nm, .int .i64 st, lv, gv]] W fun e w' => ∃ g c, e = .returned (.tuple #[.slice (some ⟨g, 0, none⟩) N c, .int .i64 0]) ∧ N ≤ c ∧ Below W.heap.size W w' ∧ Hid (Rd w' w'.heap.size (.slice (some ⟨g, 0, none⟩) N c) N xs)))
    (D0 : Hid (∀ (W : World) (A : Option Addr) (c : Nat), Rd W W.heap.size (.slice A N c) N xs → Calls Tryz.prog 16 #[.slice A N c] W (DecOk nm st eb gs W)))
    (D1 : Hid (∀ (W : World) (A : Option Addr) (c : Nat), Rd W W.heap.size (.slice A (N - 1) c) (N - 1) (xs.take (N - 1)) → Calls Tryz.prog 16 #[.slice A (N - 1) c] W (DecNo 29 W)))
    (D2 : Hid (∀ (W : World) (A : Option Addr) (c : Nat), Rd W W.heap.size (.slice A (N + 1) c) (N + 1) (xs ++ [.int .u8 0]) → Calls Tryz.prog 16 #[.slice A (N + 1) c] W (DecNo 2 W)))
    (PS : Hid (∀ W : World, Below w.heap.size w W → Calls Tryz.prog 10 #[.string s] W (Txtd s W)))
    (PP : Hid (txtE s = 0 → ∀ (W : World) (lv gv : Value), Below w.heap.size w W → Rd W W.heap.size lv (tBs s).length (flc (tBs s)) → Rd W W.heap.size gv (tGs s).length (spc (tGs s)) → Calls Tryz.prog 8 #[.agg #[.string (tNm s), .int .i64 (tSt s), lv, gv]] W fun e w' => e = .returned (.tuple #[.string s, .int .i64 0]) ∧ Below W.heap.size W w'))
    (PT : Hid (∀ W : World, Below w.heap.size w W → Calls Tryz.prog 10 #[.string (code.extract 0 (code.size - 1))] W fun e w' => e = .returned (.tuple #[.agg #[.string ⟨#[]⟩, .int .i64 0, .slice none 0 0, .slice none 0 0], .int .i64 ((bs.length : Nat) : Int), .int .i64 26]) ∧ Below W.heap.size W w')) :
    Calls Tryz.prog 4 #[.agg #[.string nm, .int .i64 st, .slice A bs.length c, .slice A2 gs.length c2], .string s] w fun e w' => e = .returned (.bool true) ∧ Below w.heap.size w w' := by
  obtain ⟨i0, hi, hz0, hz1, hz2⟩ := info_parts byteInfo
  have HI := hd (And.intro hi (And.intro hz0 (And.intro hz1 hz2)))
  clear hi hz0 hz1 hz2
  have hb1 := (Below.refl w.heap.size w).alloc (Nat.le_refl _) (Obj.cells #[.string nm, .int .i64 st, .slice A bs.length c, .slice A2 gs.length c2] 25)
  have HQ := hd (show (w.alloc (Obj.cells #[.string nm, .int .i64 st, .slice A bs.length c, .slice A2 gs.length c2] 25)).heap[w.heap.size]? = some (.cells #[.string nm, .int .i64 st, .slice A bs.length c, .slice A2 gs.length c2] 25 (0, 0)) from blk_new _ _ _)
  have HB := hd hb1
  have RL := hd ((HL.out.below hb1 (Nat.le_refl _)).mono hb1.size)
  have RG := hd ((HG.out.below hb1 (Nat.le_refl _)).mono hb1.size)
  have HS := hd hs
  have hlen : ¬ (300 : Int) < (s.size : Int) := by omega
  have hlc : ¬ (code.size : Int) < 3 := by omega
  have hlc1 : (1 : Int) ≤ (code.size : Int) := by omega
  have hlc2 : 1 ≤ code.size := by omega
  have hln : ¬ (N : Int) < 17 := by omega
  have hd3 : decide ((code.size : Int) < 3) = false := decide_eq_false hlc
  have hdN : decide ((N : Int) < 17) = false := decide_eq_false hln
  have hln1 : (1 : Int) ≤ (N : Int) := by omega
  have hln2 : 1 ≤ N := by omega
  have hin1 : (code.size : Int) - 1 = ((code.size - 1 : Nat) : Int) := by omega
  have hin2 : (N : Int) - 1 = ((N - 1 : Nat) : Int) := by omega
  clear hb1 hs
  go_enter Tryz.func4, Tryz.ntmps4
  go_wp2_with fail
  generalize (w.alloc (Obj.cells #[.string nm, .int .i64 st, .slice A bs.length c, .slice A2 gs.length c2] 25)) = W1 at *
  refine (HA.out _).mono ?_
  rintro e za ⟨rfl, hb⟩
  replace HQ := hd ((hb.block _ (blk_lt HQ.out)).trans HQ.out)
  replace HB := hd (HB.out.trans (hb.mono HB.out.size))
  replace RL := hd ((RL.out.below hb (Nat.le_refl _)).mono hb.size)
  replace RG := hd ((RG.out.below hb (Nat.le_refl _)).mono hb.size)
  clear hb
  have hZ := box4r HQ.out
  obtain ⟨k0, k1, k2, k3, kf0, kf1, kf2, kf3⟩ := hZ
  go_wp2_with fail
  refine (short_any nm st A A2 bs.length c gs.length c2 _).mono ?_
  rw [S1.out]
  rintro e z0 ⟨rfl, hb⟩
  replace HQ := hd ((hb.block _ (blk_lt HQ.out)).trans HQ.out)
  replace HB := hd (HB.out.trans (hb.mono HB.out.size))
  replace RL := hd ((RL.out.below hb (Nat.le_refl _)).mono hb.size)
  replace RG := hd ((RG.out.below hb (Nat.le_refl _)).mono hb.size)
  clear hb
  clear k0 k1 k2 k3 kf0 kf1 kf2 kf3
  have hZ := box4r HQ.out
  obtain ⟨k0, k1, k2, k3, kf0, kf1, kf2, kf3⟩ := hZ
  go_wp2_with fail
  refine (CR.out _ _ _ HB.out RL.out RG.out).mono ?_
  rintro e z1 ⟨rfl, hb⟩
  replace HQ := hd ((hb.block _ (blk_lt HQ.out)).trans HQ.out)
  replace HB := hd (HB.out.trans (hb.mono HB.out.size))
  replace RL := hd ((RL.out.below hb (Nat.le_refl _)).mono hb.size)
  replace RG := hd ((RG.out.below hb (Nat.le_refl _)).mono hb.size)
  clear hb
  clear k0 k1 k2 k3 kf0 kf1 kf2 kf3
  have hZ := box4r HQ.out
  obtain ⟨k0, k1, k2, k3, kf0, kf1, kf2, kf3⟩ := hZ
  go_wp2_with fail
  refine (lawRecord_any nm st _ _ bs gs _ RL.out RG.out FL.out FG.out HN.out.1 HN.out.2).mono ?_
  rintro e z2 ⟨u1, u2, rfl, hu1, hu2, -, -, hb⟩
  have U1 := hd hu1
  have U2 := hd hu2
  clear hu1 hu2
  replace HQ := hd ((hb.block _ (blk_lt HQ.out)).trans HQ.out)
  replace HB := hd (HB.out.trans (hb.mono HB.out.size))
  replace RL := hd ((RL.out.below hb (Nat.le_refl _)).mono hb.size)
  replace RG := hd ((RG.out.below hb (Nat.le_refl _)).mono hb.size)
  clear hb
  clear k0 k1 k2 k3 kf0 kf1 kf2 kf3
  go_wp2_with fail
  refine (GE.out _ _ _ HB.out U1.out U2.out).mono ?_
  rintro e z3 ⟨rfl, hb⟩
  clear U1 U2
  replace HQ := hd ((hb.block _ (blk_lt HQ.out)).trans HQ.out)
  replace HB := hd (HB.out.trans (hb.mono HB.out.size))
  replace RL := hd ((RL.out.below hb (Nat.le_refl _)).mono hb.size)
  replace RG := hd ((RG.out.below hb (Nat.le_refl _)).mono hb.size)
  clear hb
  go_wp2_with fail
  refine (GD.out _ HB.out).mono ?_
  rintro e z4 ⟨AX, AY, cx, cy, rfl, hb, RX, RY⟩
  replace HQ := hd ((hb.block _ (blk_lt HQ.out)).trans HQ.out)
  replace HB := hd (HB.out.trans (hb.mono HB.out.size))
  replace RL := hd ((RL.out.below hb (Nat.le_refl _)).mono hb.size)
  replace RG := hd ((RG.out.below hb (Nat.le_refl _)).mono hb.size)
  clear hb
  have hb := (Below.refl z4.heap.size z4).alloc (Nat.le_refl _) (Obj.cells #[.string nm, .int .i64 st, .slice AX tb.length cx, .slice AY gs.length cy] 31)
  have HX7 := hd (blk_new z4 #[.string nm, .int .i64 st, .slice AX tb.length cx, .slice AY gs.length cy] 31)
  replace HQ := hd ((hb.block _ (blk_lt HQ.out)).trans HQ.out)
  replace HB := hd (HB.out.trans (hb.mono HB.out.size))
  replace RL := hd ((RL.out.below hb (Nat.le_refl _)).mono hb.size)
  replace RG := hd ((RG.out.below hb (Nat.le_refl _)).mono hb.size)
  replace RX := hd ((RX.out.below hb (Nat.le_refl _)).mono hb.size)
  replace RY := hd ((RY.out.below hb (Nat.le_refl _)).mono hb.size)
  clear hb
  have hZ := box4r HQ.out
  obtain ⟨k0, k1, k2, k3, kf0, kf1, kf2, kf3⟩ := hZ
  go_wp2_with fail
  generalize z4.alloc (Obj.cells #[.string nm, .int .i64 st, .slice AX tb.length cx, .slice AY gs.length cy] 31) = W4 at *
  generalize z4.heap.size = XW4 at *
  clear k0 k1 k2 k3 kf0 kf1 kf2 kf3
  refine (lawRecord_any nm st _ _ bs gs _ RL.out RG.out FL.out FG.out HN.out.1 HN.out.2).mono ?_
  rintro e zb ⟨u1, u2, rfl, hu1, hu2, -, -, hb⟩
  have U1 := hd hu1
  have U2 := hd hu2
  clear hu1 hu2
  replace HQ := hd ((hb.block _ (blk_lt HQ.out)).trans HQ.out)
  replace HX7 := hd ((hb.block _ (blk_lt HX7.out)).trans HX7.out)
  replace HB := hd (HB.out.trans (hb.mono HB.out.size))
  replace RL := hd ((RL.out.below hb (Nat.le_refl _)).mono hb.size)
  replace RG := hd ((RG.out.below hb (Nat.le_refl _)).mono hb.size)
  replace RX := hd ((RX.out.below hb (Nat.le_refl _)).mono hb.size)
  replace RY := hd ((RY.out.below hb (Nat.le_refl _)).mono hb.size)
  clear hb
  go_wp2_with fail
  refine (CE.out _ _ _ HB.out U1.out U2.out).mono ?_
  rintro e z5 ⟨gc, cc, rfl, hcc, hb, RC⟩
  clear U1 U2
  replace HQ := hd ((hb.block _ (blk_lt HQ.out)).trans HQ.out)
  replace HX7 := hd ((hb.block _ (blk_lt HX7.out)).trans HX7.out)
  replace HB := hd (HB.out.trans (hb.mono HB.out.size))
  replace RL := hd ((RL.out.below hb (Nat.le_refl _)).mono hb.size)
  replace RG := hd ((RG.out.below hb (Nat.le_refl _)).mono hb.size)
  replace RX := hd ((RX.out.below hb (Nat.le_refl _)).mono hb.size)
  replace RY := hd ((RY.out.below hb (Nat.le_refl _)).mono hb.size)
  clear hb
  have hcc2 : N - 1 ≤ cc := by omega
  have hcc3 : 1 ≤ cc := by omega
  have HNA := hd (show N + 1 ≤ maxLen ∧ (N + 1) * 1 ≤ 140737488355328 by unfold maxLen; omega)
  have HNB := hd (show 0 + N ≤ maxLen ∧ (0 + N) * 1 ≤ 140737488355328 by unfold maxLen; omega)
  have HNC := hd (show 0 + (N - 1) ≤ maxLen ∧ (0 + (N - 1)) * 1 ≤ 140737488355328 by unfold maxLen; omega)
  have HBA := hd ((Below.refl z5.heap.size z5).alloc (Nat.le_refl _) (Obj.cells #[] 5))
  have HRN := hd (rd_newR (RC.out.below HBA.out (Nat.le_refl _)) HX.out)
  go_wp2_with (at_builtin; refine Hid.out ?_)
  refine hd ?_
  refine wpList_append_own _ rfl (.tmp 63) (.tmp 64) 41 rfl z5.heap.size 5 i0 (.int .u8 0) 1 1 Tryz.underlying41 HI.out.1 HI.out.2.1 HI.out.2.2.1 HI.out.2.2.2 rfl (by decide) (.slice (some ⟨z5.heap.size, 0, none⟩) 0 0) 0 [] rfl ?c0 ⟨gc, 0, none⟩ N cc xs rfl ?c00 HRN.out HXC.out HNB.out.1 HNB.out.2 ?c5 ?_
  case c0 => exact World.ownsRow_lit _ #[] 0 (Nat.le_refl _) (by decide) rfl
  case c00 => rw [HX.out]; omega
  case c5 => simp
  intro vA wA hown hgrow _
  have hb : Below z5.heap.size z5 wA := HBA.out.grown hgrow (by simp) (fun k hk => by simp [Value.ownBlock] at hk; omega)
  rw [Nat.zero_add, List.nil_append] at hown
  have hrd := rd_of_own hown
  obtain ⟨AA, cA, rfl, -⟩ := own_form hown
  have RA := hd hrd
  clear hown hgrow hrd HBA HRN
  replace HQ := hd ((hb.block _ (blk_lt HQ.out)).trans HQ.out)
  replace HX7 := hd ((hb.block _ (blk_lt HX7.out)).trans HX7.out)
  replace HB := hd (HB.out.trans (hb.mono HB.out.size))
  replace RL := hd ((RL.out.below hb (Nat.le_refl _)).mono hb.size)
  replace RG := hd ((RG.out.below hb (Nat.le_refl _)).mono hb.size)
  replace RX := hd ((RX.out.below hb (Nat.le_refl _)).mono hb.size)
  replace RY := hd ((RY.out.below hb (Nat.le_refl _)).mono hb.size)
  replace RC := hd ((RC.out.below hb (Nat.le_refl _)).mono hb.size)
  clear hb
  go_wp2_with fail
  refine (D0.out _ _ _ RA.out).mono ?_
  rintro e z6 ⟨BX, BY, dx, dy, rfl, hb, RD, RE⟩
  clear RA
  replace HQ := hd ((hb.block _ (blk_lt HQ.out)).trans HQ.out)
  replace HX7 := hd ((hb.block _ (blk_lt HX7.out)).trans HX7.out)
  replace HB := hd (HB.out.trans (hb.mono HB.out.size))
  replace RL := hd ((RL.out.below hb (Nat.le_refl _)).mono hb.size)
  replace RG := hd ((RG.out.below hb (Nat.le_refl _)).mono hb.size)
  replace RX := hd ((RX.out.below hb (Nat.le_refl _)).mono hb.size)
  replace RY := hd ((RY.out.below hb (Nat.le_refl _)).mono hb.size)
  replace RC := hd ((RC.out.below hb (Nat.le_refl _)).mono hb.size)
  clear hb
  have hb := (Below.refl z6.heap.size z6).alloc (Nat.le_refl _) (Obj.cells #[.string nm, .int .i64 st, .slice BX eb.length dx, .slice BY gs.length dy] 31)
  have HX12 := hd (blk_new z6 #[.string nm, .int .i64 st, .slice BX eb.length dx, .slice BY gs.length dy] 31)
  replace HQ := hd ((hb.block _ (blk_lt HQ.out)).trans HQ.out)
  replace HX7 := hd ((hb.block _ (blk_lt HX7.out)).trans HX7.out)
  replace HB := hd (HB.out.trans (hb.mono HB.out.size))
  replace RL := hd ((RL.out.below hb (Nat.le_refl _)).mono hb.size)
  replace RG := hd ((RG.out.below hb (Nat.le_refl _)).mono hb.size)
  replace RX := hd ((RX.out.below hb (Nat.le_refl _)).mono hb.size)
  replace RY := hd ((RY.out.below hb (Nat.le_refl _)).mono hb.size)
  replace RC := hd ((RC.out.below hb (Nat.le_refl _)).mono hb.size)
  replace RD := hd ((RD.out.below hb (Nat.le_refl _)).mono hb.size)
  replace RE := hd ((RE.out.below hb (Nat.le_refl _)).mono hb.size)
  clear hb
  go_wp2_with fail
  generalize z6.alloc (Obj.cells #[.string nm, .int .i64 st, .slice BX eb.length dx, .slice BY gs.length dy] 31) = W6 at *
  generalize z6.heap.size = XW6 at *
  have Fa0 : ∀ p : Bw W6, p.out.cell? ⟨w.heap.size, 0, none⟩ = some (.string nm) := fun p => p.cell (blk_lt HQ.out) (by simpa using blk_cell HQ.out 0)
  have Fa1 : ∀ p : Bw W6, p.out.cell? ⟨w.heap.size, 1, none⟩ = some (.int .i64 st) := fun p => p.cell (blk_lt HQ.out) (by simpa using blk_cell HQ.out 1)
  have Fa2 : ∀ p : Bw W6, p.out.cell? ⟨w.heap.size, 2, none⟩ = some (.slice A bs.length c) := fun p => p.cell (blk_lt HQ.out) (by simpa using blk_cell HQ.out 2)
  have Fa3 : ∀ p : Bw W6, p.out.cell? ⟨w.heap.size, 3, none⟩ = some (.slice A2 gs.length c2) := fun p => p.cell (blk_lt HQ.out) (by simpa using blk_cell HQ.out 3)
  have Fb0 : ∀ p : Bw W6, p.out.cell? ⟨XW4, 0, none⟩ = some (.string nm) := fun p => p.cell (blk_lt HX7.out) (by simpa using blk_cell HX7.out 0)
  have Fb1 : ∀ p : Bw W6, p.out.cell? ⟨XW4, 1, none⟩ = some (.int .i64 st) := fun p => p.cell (blk_lt HX7.out) (by simpa using blk_cell HX7.out 1)
  have Fb2 : ∀ p : Bw W6, p.out.cell? ⟨XW4, 2, none⟩ = some (.slice AX tb.length cx) := fun p => p.cell (blk_lt HX7.out) (by simpa using blk_cell HX7.out 2)
  have Fb3 : ∀ p : Bw W6, p.out.cell? ⟨XW4, 3, none⟩ = some (.slice AY gs.length cy) := fun p => p.cell (blk_lt HX7.out) (by simpa using blk_cell HX7.out 3)
  have Fd0 : ∀ p : Bw W6, p.out.cell? ⟨XW6, 0, none⟩ = some (.string nm) := fun p => p.cell (blk_lt HX12.out) (by simpa using blk_cell HX12.out 0)
  have Fd1 : ∀ p : Bw W6, p.out.cell? ⟨XW6, 1, none⟩ = some (.int .i64 st) := fun p => p.cell (blk_lt HX12.out) (by simpa using blk_cell HX12.out 1)
  have Fd2 : ∀ p : Bw W6, p.out.cell? ⟨XW6, 2, none⟩ = some (.slice BX eb.length dx) := fun p => p.cell (blk_lt HX12.out) (by simpa using blk_cell HX12.out 2)
  have Fd3 : ∀ p : Bw W6, p.out.cell? ⟨XW6, 3, none⟩ = some (.slice BY gs.length dy) := fun p => p.cell (blk_lt HX12.out) (by simpa using blk_cell HX12.out 3)
  have HSX := hd (fun p : Bw W6 => sameRec_yes nm st _ _ _ _ tb bs gs gs p.out ((RX.out.below p.below (Nat.le_refl _)).mono p.below.size) ((RY.out.below p.below (Nat.le_refl _)).mono p.below.size) ((RL.out.below p.below (Nat.le_refl _)).mono p.below.size) ((RG.out.below p.below (Nat.le_refl _)).mono p.below.size) ST.out (sameF_yes _ (0, 0) _ _ rfl (fun j hj => by simp)))
  have HSY := hd (fun p : Bw W6 => sameRec_yes nm st _ _ _ _ eb bs gs gs p.out ((RD.out.below p.below (Nat.le_refl _)).mono p.below.size) ((RE.out.below p.below (Nat.le_refl _)).mono p.below.size) ((RL.out.below p.below (Nat.le_refl _)).mono p.below.size) ((RG.out.below p.below (Nat.le_refl _)).mono p.below.size) SE.out (sameF_yes _ (0, 0) _ _ rfl (fun j hj => by simp)))
  refine wp_region_bw (by kernel_rfl) (by kernel_rfl) ?_
  repeat (first | go_big_quiet_step (fail))
  go_big_quiet_step (first | (go_at_call 18; exact Bw.call _ (own_rec _ _ _ _ _ _ _ _ _)))
  repeat (first | go_big_quiet_step (fail))
  go_big_quiet_step (first | (go_at_call 17; exact Bw.call _ (HSX.out _)))
  repeat (first | go_big_quiet_step (fail))
  go_big_quiet_step (first | (go_at_call 18; exact Bw.call _ (own_rec _ _ _ _ _ _ _ _ _)))
  repeat (first | go_big_quiet_step (fail))
  go_big_quiet_step (first | (go_at_call 17; exact Bw.call _ (HSY.out _)))
  repeat (first | go_big_quiet_step (fail))
  apply wpQuiet_nil
  rintro ⟨W7, hb⟩
  change Exit.then _ _ _ _ W7
  clear Fa0 Fa1 Fa2 Fa3 Fb0 Fb1 Fb2 Fb3 Fd0 Fd1 Fd2 Fd3 HSX HSY RX RY RD RE HX7 HX12
  replace HQ := hd ((hb.block _ (blk_lt HQ.out)).trans HQ.out)
  replace HB := hd (HB.out.trans (hb.mono HB.out.size))
  replace RL := hd ((RL.out.below hb (Nat.le_refl _)).mono hb.size)
  replace RG := hd ((RG.out.below hb (Nat.le_refl _)).mono hb.size)
  replace RC := hd ((RC.out.below hb (Nat.le_refl _)).mono hb.size)
  clear hb
  go_wp2_with fail
  refine (PS.out _ HB.out).mono ?_
  rintro e z7 ⟨hb, ⟨h0, LV, GV, rfl, hl, hg⟩ | ⟨h0, rfl⟩⟩
  clear RL RG
  · skip
    replace HQ := hd ((hb.block _ (blk_lt HQ.out)).trans HQ.out)
    replace HB := hd (HB.out.trans (hb.mono HB.out.size))
    replace RC := hd ((RC.out.below hb (Nat.le_refl _)).mono hb.size)
    clear hb
    have HL9 := hd hl
    have HG9 := hd hg
    clear hl hg
    obtain ⟨A9, c9, hA9, -⟩ := id HL9.out
    obtain ⟨A10, c10, hA10, -⟩ := id HG9.out
    subst hA9 hA10
    have hb := (Below.refl z7.heap.size z7).alloc (Nat.le_refl _) (Obj.cells #[.string (tNm s), .int .i64 (tSt s), .slice A9 (tBs s).length c9, .slice A10 (tGs s).length c10] 31)
    have HX14 := hd (blk_new z7 #[.string (tNm s), .int .i64 (tSt s), .slice A9 (tBs s).length c9, .slice A10 (tGs s).length c10] 31)
    replace HQ := hd ((hb.block _ (blk_lt HQ.out)).trans HQ.out)
    replace HB := hd (HB.out.trans (hb.mono HB.out.size))
    replace RC := hd ((RC.out.below hb (Nat.le_refl _)).mono hb.size)
    replace HL9 := hd ((HL9.out.below hb (Nat.le_refl _)).mono hb.size)
    replace HG9 := hd ((HG9.out.below hb (Nat.le_refl _)).mono hb.size)
    clear hb
    have hZ := box4r HX14.out
    obtain ⟨x0, x1, x2, x3, xf0, xf1, xf2, xf3⟩ := hZ
    have hPP := hd (PP.out h0)
    clear h0
    go_wp2_with fail
    generalize z7.alloc (Obj.cells #[.string (tNm s), .int .i64 (tSt s), .slice A9 (tBs s).length c9, .slice A10 (tGs s).length c10] 31) = W9 at *
    generalize z7.heap.size = XW9 at *
    clear x0 x1 x2 x3 xf0 xf1 xf2 xf3
    clear HX14
    refine (hPP.out _ _ _ HB.out HL9.out HG9.out).mono ?_
    rintro e z8 ⟨rfl, hb⟩
    clear HL9 HG9 hPP
    replace HQ := hd ((hb.block _ (blk_lt HQ.out)).trans HQ.out)
    replace HB := hd (HB.out.trans (hb.mono HB.out.size))
    replace RC := hd ((RC.out.below hb (Nat.le_refl _)).mono hb.size)
    clear hb
    go_wp2_with fail
    refine (PT.out _ HB.out).mono ?_
    rintro e z9 ⟨rfl, hb⟩
    replace HQ := hd ((hb.block _ (blk_lt HQ.out)).trans HQ.out)
    replace HB := hd (HB.out.trans (hb.mono HB.out.size))
    replace RC := hd ((RC.out.below hb (Nat.le_refl _)).mono hb.size)
    clear hb
    have hb := (Below.refl z9.heap.size z9).alloc (Nat.le_refl _) (Obj.cells #[.string ⟨#[]⟩, .int .i64 0, .slice none 0 0, .slice none 0 0] 31)
    replace HQ := hd ((hb.block _ (blk_lt HQ.out)).trans HQ.out)
    replace HB := hd (HB.out.trans (hb.mono HB.out.size))
    replace RC := hd ((RC.out.below hb (Nat.le_refl _)).mono hb.size)
    clear hb
    have hlt1 : (xs.take (N - 1)).length = N - 1 := by rw [List.length_take, HX.out]; omega
    have HLT := hd hlt1
    clear hlt1
    go_wp2_with (at_builtin; refine Hid.out ?_)
    refine hd ?_
    have hVs : (z9.alloc (Obj.cells #[.string ⟨#[]⟩, .int .i64 0, .slice none 0 0, .slice none 0 0] 31)).heap.size = z9.heap.size + 1 := by simp
    generalize z9.alloc (Obj.cells #[.string ⟨#[]⟩, .int .i64 0, .slice none 0 0, .slice none 0 0] 31) = V1 at *
    rw [← hVs]
    clear hVs
    have HBA := hd ((Below.refl V1.heap.size V1).alloc (Nat.le_refl _) (Obj.cells #[] 5))
    have HRN := hd (rd_newR ((rd_cut RC.out HX.out hln2).below HBA.out (Nat.le_refl _)) HLT.out)
    refine wpList_append_own _ rfl (.tmp 136) (.tmp 141) 41 rfl V1.heap.size 5 i0 (.int .u8 0) 1 1 Tryz.underlying41 HI.out.1 HI.out.2.1 HI.out.2.2.1 HI.out.2.2.2 rfl (by decide) (.slice (some ⟨V1.heap.size, 0, none⟩) 0 0) 0 [] rfl ?c0 ⟨gc, 0, none⟩ (N - 1) cc (xs.take (N - 1)) rfl ?c00 HRN.out (fun u hu => HXC.out u (List.mem_of_mem_take hu)) HNC.out.1 HNC.out.2 ?c5 ?_
    case c0 => exact World.ownsRow_lit _ #[] 0 (Nat.le_refl _) (by decide) rfl
    case c00 => rw [HLT.out]; omega
    case c5 => simp
    intro vA wA hown hgrow _
    have hb : Below V1.heap.size V1 wA := HBA.out.grown hgrow (by simp) (fun k hk => by simp [Value.ownBlock] at hk; omega)
    rw [Nat.zero_add, List.nil_append] at hown
    have hrd := rd_of_own hown
    obtain ⟨AA, cA, rfl, -⟩ := own_form hown
    have RA := hd hrd
    clear hown hgrow hrd HBA HRN
    replace HQ := hd ((hb.block _ (blk_lt HQ.out)).trans HQ.out)
    replace HB := hd (HB.out.trans (hb.mono HB.out.size))
    replace RC := hd ((RC.out.below hb (Nat.le_refl _)).mono hb.size)
    clear hb
    go_wp2_with fail
    refine (D1.out _ _ _ RA.out).mono ?_
    rintro e z10 ⟨rfl, hb⟩
    clear RA
    replace HQ := hd ((hb.block _ (blk_lt HQ.out)).trans HQ.out)
    replace HB := hd (HB.out.trans (hb.mono HB.out.size))
    replace RC := hd ((RC.out.below hb (Nat.le_refl _)).mono hb.size)
    clear hb
    have hb := (Below.refl z10.heap.size z10).alloc (Nat.le_refl _) (Obj.cells #[.string ⟨#[]⟩, .int .i64 0, .slice none 0 0, .slice none 0 0] 31)
    replace HQ := hd ((hb.block _ (blk_lt HQ.out)).trans HQ.out)
    replace HB := hd (HB.out.trans (hb.mono HB.out.size))
    replace RC := hd ((RC.out.below hb (Nat.le_refl _)).mono hb.size)
    clear hb
    go_wp2_with (at_builtin; refine Hid.out ?_)
    refine hd ?_
    have hVs : (z10.alloc (Obj.cells #[.string ⟨#[]⟩, .int .i64 0, .slice none 0 0, .slice none 0 0] 31)).heap.size = z10.heap.size + 1 := by simp
    generalize z10.alloc (Obj.cells #[.string ⟨#[]⟩, .int .i64 0, .slice none 0 0, .slice none 0 0] 31) = V2 at *
    rw [← hVs]
    clear hVs
    have HBA := hd ((Below.refl V2.heap.size V2).alloc (Nat.le_refl _) (Obj.cells #[] 5))
    have HRN := hd (rd_newR (RC.out.below HBA.out (Nat.le_refl _)) HX.out)
    refine wpList_append_own _ rfl (.tmp 147) (.tmp 148) 41 rfl V2.heap.size 5 i0 (.int .u8 0) 1 1 Tryz.underlying41 HI.out.1 HI.out.2.1 HI.out.2.2.1 HI.out.2.2.2 rfl (by decide) (.slice (some ⟨V2.heap.size, 0, none⟩) 0 0) 0 [] rfl ?c0 ⟨gc, 0, none⟩ N cc xs rfl ?c00 HRN.out HXC.out HNB.out.1 HNB.out.2 ?c5 ?_
    case c0 => exact World.ownsRow_lit _ #[] 0 (Nat.le_refl _) (by decide) rfl
    case c00 => rw [HX.out]; omega
    case c5 => simp
    intro vA wA hown hgrow _
    have hb : Below V2.heap.size V2 wA := HBA.out.grown hgrow (by simp) (fun k hk => by simp [Value.ownBlock] at hk; omega)
    rw [Nat.zero_add, List.nil_append] at hown
    obtain ⟨AA, cA, rfl, -⟩ := own_form hown
    have HOW := hd hown
    have HVA := hd hb
    have HQ2 := hd (blk_lt HQ.out)
    clear hown hgrow HBA HRN hb
    have HBB := hd ((Below.refl wA.heap.size wA).alloc (Nat.le_refl _) (Obj.cells #[.int .u8 0] 5))
    go_wp2_with (at_builtin; refine Hid.out ?_)
    refine hd ?_
    refine wpList_append_own _ rfl (.tmp 149) (.tmp 150) 41 rfl V2.heap.size 5 i0 (.int .u8 0) 1 1 Tryz.underlying41 HI.out.1 HI.out.2.1 HI.out.2.2.1 HI.out.2.2.2 rfl (by decide) (.slice AA N cA) N xs rfl (HOW.out.alloc _) ⟨wA.heap.size, 0, none⟩ 1 1 [.int .u8 0] rfl rfl (cell_one_newS _ _ _) (by simp [Value.oneCell']) HNA.out.1 HNA.out.2 ?c5 ?_
    case c5 => have := HVA.out.size; simp; omega
    intro vB wB hown hgrow _
    have hb : Below V2.heap.size V2 wB := (HVA.out.trans (HBB.out.mono HVA.out.size)).grown hgrow (by have := HVA.out.size; simp; omega) (fun k hk => (HOW.out.lt k hk).1)
    have hrd := rd_of_own hown
    obtain ⟨AB, cB, rfl, -⟩ := own_form hown
    have RA := hd hrd
    clear hown hgrow hrd HBB HOW HVA
    replace HQ := hd ((hb.block _ HQ2.out).trans HQ.out)
    replace HB := hd (HB.out.trans (hb.mono HB.out.size))
    clear hb RC HQ2
    go_wp2_with fail
    refine (D2.out _ _ _ RA.out).mono ?_
    rintro e z11 ⟨rfl, hb⟩
    clear RA
    replace HQ := hd ((hb.block _ (blk_lt HQ.out)).trans HQ.out)
    replace HB := hd (HB.out.trans (hb.mono HB.out.size))
    clear hb
    have hb := (Below.refl z11.heap.size z11).alloc (Nat.le_refl _) (Obj.cells #[.string ⟨#[]⟩, .int .i64 0, .slice none 0 0, .slice none 0 0] 31)
    replace HQ := hd ((hb.block _ (blk_lt HQ.out)).trans HQ.out)
    replace HB := hd (HB.out.trans (hb.mono HB.out.size))
    clear hb
    have hZ := box4r HQ.out
    obtain ⟨k0, k1, k2, k3, kf0, kf1, kf2, kf3⟩ := hZ
    go_wp2_with fail
    go_returns
    exact ⟨rfl, HB.out⟩
  · skip
    replace HQ := hd ((hb.block _ (blk_lt HQ.out)).trans HQ.out)
    replace HB := hd (HB.out.trans (hb.mono HB.out.size))
    replace RC := hd ((RC.out.below hb (Nat.le_refl _)).mono hb.size)
    clear hb
    have hz9 : (txtE s == 0) = false := by simpa using h0
    clear h0
    obtain ⟨TE, hTE⟩ : ∃ x, x = txtE s := ⟨_, rfl⟩
    rw [← hTE] at hz9 ⊢
    clear hTE
    generalize (txtAt s : Int) = TA
    have hb := (Below.refl z7.heap.size z7).alloc (Nat.le_refl _) (Obj.cells #[.string ⟨#[]⟩, .int .i64 0, .slice none 0 0, .slice none 0 0] 31)
    replace HQ := hd ((hb.block _ (blk_lt HQ.out)).trans HQ.out)
    replace HB := hd (HB.out.trans (hb.mono HB.out.size))
    replace RC := hd ((RC.out.below hb (Nat.le_refl _)).mono hb.size)
    clear hb
    go_wp2_with fail
    refine (PT.out _ HB.out).mono ?_
    rintro e z8 ⟨rfl, hb⟩
    replace HQ := hd ((hb.block _ (blk_lt HQ.out)).trans HQ.out)
    replace HB := hd (HB.out.trans (hb.mono HB.out.size))
    replace RC := hd ((RC.out.below hb (Nat.le_refl _)).mono hb.size)
    clear hb
    have hb := (Below.refl z8.heap.size z8).alloc (Nat.le_refl _) (Obj.cells #[.string ⟨#[]⟩, .int .i64 0, .slice none 0 0, .slice none 0 0] 31)
    replace HQ := hd ((hb.block _ (blk_lt HQ.out)).trans HQ.out)
    replace HB := hd (HB.out.trans (hb.mono HB.out.size))
    replace RC := hd ((RC.out.below hb (Nat.le_refl _)).mono hb.size)
    clear hb
    have hlt1 : (xs.take (N - 1)).length = N - 1 := by rw [List.length_take, HX.out]; omega
    have HLT := hd hlt1
    clear hlt1
    go_wp2_with (at_builtin; refine Hid.out ?_)
    refine hd ?_
    have hVs : (z8.alloc (Obj.cells #[.string ⟨#[]⟩, .int .i64 0, .slice none 0 0, .slice none 0 0] 31)).heap.size = z8.heap.size + 1 := by simp
    generalize z8.alloc (Obj.cells #[.string ⟨#[]⟩, .int .i64 0, .slice none 0 0, .slice none 0 0] 31) = V1 at *
    rw [← hVs]
    clear hVs
    have HBA := hd ((Below.refl V1.heap.size V1).alloc (Nat.le_refl _) (Obj.cells #[] 5))
    have HRN := hd (rd_newR ((rd_cut RC.out HX.out hln2).below HBA.out (Nat.le_refl _)) HLT.out)
    refine wpList_append_own _ rfl (.tmp 136) (.tmp 141) 41 rfl V1.heap.size 5 i0 (.int .u8 0) 1 1 Tryz.underlying41 HI.out.1 HI.out.2.1 HI.out.2.2.1 HI.out.2.2.2 rfl (by decide) (.slice (some ⟨V1.heap.size, 0, none⟩) 0 0) 0 [] rfl ?c0 ⟨gc, 0, none⟩ (N - 1) cc (xs.take (N - 1)) rfl ?c00 HRN.out (fun u hu => HXC.out u (List.mem_of_mem_take hu)) HNC.out.1 HNC.out.2 ?c5 ?_
    case c0 => exact World.ownsRow_lit _ #[] 0 (Nat.le_refl _) (by decide) rfl
    case c00 => rw [HLT.out]; omega
    case c5 => simp
    intro vA wA hown hgrow _
    have hb : Below V1.heap.size V1 wA := HBA.out.grown hgrow (by simp) (fun k hk => by simp [Value.ownBlock] at hk; omega)
    rw [Nat.zero_add, List.nil_append] at hown
    have hrd := rd_of_own hown
    obtain ⟨AA, cA, rfl, -⟩ := own_form hown
    have RA := hd hrd
    clear hown hgrow hrd HBA HRN
    replace HQ := hd ((hb.block _ (blk_lt HQ.out)).trans HQ.out)
    replace HB := hd (HB.out.trans (hb.mono HB.out.size))
    replace RC := hd ((RC.out.below hb (Nat.le_refl _)).mono hb.size)
    clear hb
    go_wp2_with fail
    refine (D1.out _ _ _ RA.out).mono ?_
    rintro e z9 ⟨rfl, hb⟩
    clear RA
    replace HQ := hd ((hb.block _ (blk_lt HQ.out)).trans HQ.out)
    replace HB := hd (HB.out.trans (hb.mono HB.out.size))
    replace RC := hd ((RC.out.below hb (Nat.le_refl _)).mono hb.size)
    clear hb
    have hb := (Below.refl z9.heap.size z9).alloc (Nat.le_refl _) (Obj.cells #[.string ⟨#[]⟩, .int .i64 0, .slice none 0 0, .slice none 0 0] 31)
    replace HQ := hd ((hb.block _ (blk_lt HQ.out)).trans HQ.out)
    replace HB := hd (HB.out.trans (hb.mono HB.out.size))
    replace RC := hd ((RC.out.below hb (Nat.le_refl _)).mono hb.size)
    clear hb
    go_wp2_with (at_builtin; refine Hid.out ?_)
    refine hd ?_
    have hVs : (z9.alloc (Obj.cells #[.string ⟨#[]⟩, .int .i64 0, .slice none 0 0, .slice none 0 0] 31)).heap.size = z9.heap.size + 1 := by simp
    generalize z9.alloc (Obj.cells #[.string ⟨#[]⟩, .int .i64 0, .slice none 0 0, .slice none 0 0] 31) = V2 at *
    rw [← hVs]
    clear hVs
    have HBA := hd ((Below.refl V2.heap.size V2).alloc (Nat.le_refl _) (Obj.cells #[] 5))
    have HRN := hd (rd_newR (RC.out.below HBA.out (Nat.le_refl _)) HX.out)
    refine wpList_append_own _ rfl (.tmp 147) (.tmp 148) 41 rfl V2.heap.size 5 i0 (.int .u8 0) 1 1 Tryz.underlying41 HI.out.1 HI.out.2.1 HI.out.2.2.1 HI.out.2.2.2 rfl (by decide) (.slice (some ⟨V2.heap.size, 0, none⟩) 0 0) 0 [] rfl ?c0 ⟨gc, 0, none⟩ N cc xs rfl ?c00 HRN.out HXC.out HNB.out.1 HNB.out.2 ?c5 ?_
    case c0 => exact World.ownsRow_lit _ #[] 0 (Nat.le_refl _) (by decide) rfl
    case c00 => rw [HX.out]; omega
    case c5 => simp
    intro vA wA hown hgrow _
    have hb : Below V2.heap.size V2 wA := HBA.out.grown hgrow (by simp) (fun k hk => by simp [Value.ownBlock] at hk; omega)
    rw [Nat.zero_add, List.nil_append] at hown
    obtain ⟨AA, cA, rfl, -⟩ := own_form hown
    have HOW := hd hown
    have HVA := hd hb
    have HQ2 := hd (blk_lt HQ.out)
    clear hown hgrow HBA HRN hb
    have HBB := hd ((Below.refl wA.heap.size wA).alloc (Nat.le_refl _) (Obj.cells #[.int .u8 0] 5))
    go_wp2_with (at_builtin; refine Hid.out ?_)
    refine hd ?_
    refine wpList_append_own _ rfl (.tmp 149) (.tmp 150) 41 rfl V2.heap.size 5 i0 (.int .u8 0) 1 1 Tryz.underlying41 HI.out.1 HI.out.2.1 HI.out.2.2.1 HI.out.2.2.2 rfl (by decide) (.slice AA N cA) N xs rfl (HOW.out.alloc _) ⟨wA.heap.size, 0, none⟩ 1 1 [.int .u8 0] rfl rfl (cell_one_newS _ _ _) (by simp [Value.oneCell']) HNA.out.1 HNA.out.2 ?c5 ?_
    case c5 => have := HVA.out.size; simp; omega
    intro vB wB hown hgrow _
    have hb : Below V2.heap.size V2 wB := (HVA.out.trans (HBB.out.mono HVA.out.size)).grown hgrow (by have := HVA.out.size; simp; omega) (fun k hk => (HOW.out.lt k hk).1)
    have hrd := rd_of_own hown
    obtain ⟨AB, cB, rfl, -⟩ := own_form hown
    have RA := hd hrd
    clear hown hgrow hrd HBB HOW HVA
    replace HQ := hd ((hb.block _ HQ2.out).trans HQ.out)
    replace HB := hd (HB.out.trans (hb.mono HB.out.size))
    clear hb RC HQ2
    go_wp2_with fail
    refine (D2.out _ _ _ RA.out).mono ?_
    rintro e z10 ⟨rfl, hb⟩
    clear RA
    replace HQ := hd ((hb.block _ (blk_lt HQ.out)).trans HQ.out)
    replace HB := hd (HB.out.trans (hb.mono HB.out.size))
    clear hb
    have hb := (Below.refl z10.heap.size z10).alloc (Nat.le_refl _) (Obj.cells #[.string ⟨#[]⟩, .int .i64 0, .slice none 0 0, .slice none 0 0] 31)
    replace HQ := hd ((hb.block _ (blk_lt HQ.out)).trans HQ.out)
    replace HB := hd (HB.out.trans (hb.mono HB.out.size))
    clear hb
    have hZ := box4r HQ.out
    obtain ⟨k0, k1, k2, k3, kf0, kf1, kf2, kf3⟩ := hZ
    go_wp2_with fail
    go_returns
    exact ⟨rfl, HB.out⟩
end Go.Proofs.YtnncmaegmlaabaaGreatDoor

namespace Go.Proofs.YtnncmaegmlaabaaGreatDoor
open Go.RowKit
attribute [local go_sem] Oper.semAt_some

set_option maxRecDepth 1000000 in
set_option maxHeartbeats 4000000 in
theorem back_long1 (HA : Hid Awake) (nm : ByteArray) (st : Int) (A A2 : Option Addr) (c c2 : Nat) (bs : List Nat) (gs : List (Int × Int)) (s : ByteArray) (w : World) (HL : Hid (Rd w w.heap.size (.slice A bs.length c) bs.length (flc bs))) (HG : Hid (Rd w w.heap.size (.slice A2 gs.length c2) gs.length (spc gs))) (S1 : Hid (shortR nm.size bs.length gs.length = false)) :
    Calls Tryz.prog 4 #[.agg #[.string nm, .int .i64 st, .slice A bs.length c, .slice A2 gs.length c2], .string s] w fun e w' => e = .returned (.bool true) ∧ Below w.heap.size w w' := by
  have hb1 := (Below.refl w.heap.size w).alloc (Nat.le_refl _) (Obj.cells #[.string nm, .int .i64 st, .slice A bs.length c, .slice A2 gs.length c2] 25)
  have HQ := hd (blk_new w #[.string nm, .int .i64 st, .slice A bs.length c, .slice A2 gs.length c2] 25)
  have RL := hd ((HL.out.below hb1 (Nat.le_refl _)).mono hb1.size)
  have RG := hd ((HG.out.below hb1 (Nat.le_refl _)).mono hb1.size)
  have HB := hd hb1
  clear hb1
  go_enter Tryz.func4, Tryz.ntmps4
  go_wp2_with fail
  refine (HA.out _).mono ?_
  rintro e w1 ⟨rfl, hb⟩
  replace HQ := hd ((hb.block _ (blk_lt HQ.out)).trans HQ.out)
  replace RL := hd ((RL.out.below hb (Nat.le_refl _)).mono hb.size)
  replace RG := hd ((RG.out.below hb (Nat.le_refl _)).mono hb.size)
  replace HB := hd (HB.out.trans (hb.mono (HB.out.size)))
  clear hb
  have k0 := blk_cell HQ.out 0
  have k1 := blk_cell HQ.out 1
  have k2 := blk_cell HQ.out 2
  have k3 := blk_cell HQ.out 3
  simp at k0 k1 k2 k3
  go_wp2_with fail
  refine (short_any nm st A A2 bs.length c gs.length c2 _).mono ?_
  rw [S1.out]
  rintro e w2 ⟨rfl, hb⟩
  replace HQ := hd ((hb.block _ (blk_lt HQ.out)).trans HQ.out)
  replace RL := hd ((RL.out.below hb (Nat.le_refl _)).mono hb.size)
  replace RG := hd ((RG.out.below hb (Nat.le_refl _)).mono hb.size)
  replace HB := hd (HB.out.trans (hb.mono (HB.out.size)))
  clear hb k0 k1 k2 k3
  go_wp2_with fail
  refine (HA.out _).mono ?_
  rintro e w4 ⟨rfl, hb⟩
  replace HB := hd (HB.out.trans (hb.mono (HB.out.size)))
  clear hb
  go_wp2_with fail
  go_returns
  exact ⟨rfl, HB.out⟩

set_option maxRecDepth 1000000 in
set_option maxHeartbeats 4000000 in
theorem back_long2 (HA : Hid Awake) (nm : ByteArray) (st : Int) (A A2 : Option Addr) (c c2 : Nat) (bs : List Nat) (gs : List (Int × Int)) (s : ByteArray) (w : World) (HL : Hid (Rd w w.heap.size (.slice A bs.length c) bs.length (flc bs))) (HG : Hid (Rd w w.heap.size (.slice A2 gs.length c2) gs.length (spc gs))) (S1 : Hid (shortR nm.size bs.length gs.length = true)) (E : Int) (hE : (E != 0) = true) (CR : Hid (∀ (W : World) (lv gv : Value), Below w.heap.size w W → Rd W W.heap.size lv bs.length (flc bs) → Rd W W.heap.size gv gs.length (spc gs) → Calls Tryz.prog 11 #[.agg #[.string nm, .int .i64 st, lv, gv]] W fun e w' => e = .returned (.int .i64 E) ∧ Below W.heap.size W w')) :
    Calls Tryz.prog 4 #[.agg #[.string nm, .int .i64 st, .slice A bs.length c, .slice A2 gs.length c2], .string s] w fun e w' => e = .returned (.bool true) ∧ Below w.heap.size w w' := by
  have hb1 := (Below.refl w.heap.size w).alloc (Nat.le_refl _) (Obj.cells #[.string nm, .int .i64 st, .slice A bs.length c, .slice A2 gs.length c2] 25)
  have HQ := hd (blk_new w #[.string nm, .int .i64 st, .slice A bs.length c, .slice A2 gs.length c2] 25)
  have RL := hd ((HL.out.below hb1 (Nat.le_refl _)).mono hb1.size)
  have RG := hd ((HG.out.below hb1 (Nat.le_refl _)).mono hb1.size)
  have HB := hd hb1
  clear hb1
  go_enter Tryz.func4, Tryz.ntmps4
  go_wp2_with fail
  refine (HA.out _).mono ?_
  rintro e w1 ⟨rfl, hb⟩
  replace HQ := hd ((hb.block _ (blk_lt HQ.out)).trans HQ.out)
  replace RL := hd ((RL.out.below hb (Nat.le_refl _)).mono hb.size)
  replace RG := hd ((RG.out.below hb (Nat.le_refl _)).mono hb.size)
  replace HB := hd (HB.out.trans (hb.mono (HB.out.size)))
  clear hb
  have k0 := blk_cell HQ.out 0
  have k1 := blk_cell HQ.out 1
  have k2 := blk_cell HQ.out 2
  have k3 := blk_cell HQ.out 3
  simp at k0 k1 k2 k3
  go_wp2_with fail
  refine (short_any nm st A A2 bs.length c gs.length c2 _).mono ?_
  rw [S1.out]
  rintro e w2 ⟨rfl, hb⟩
  replace HQ := hd ((hb.block _ (blk_lt HQ.out)).trans HQ.out)
  replace RL := hd ((RL.out.below hb (Nat.le_refl _)).mono hb.size)
  replace RG := hd ((RG.out.below hb (Nat.le_refl _)).mono hb.size)
  replace HB := hd (HB.out.trans (hb.mono (HB.out.size)))
  clear hb k0 k1 k2 k3
  have k0 := blk_cell HQ.out 0
  have k1 := blk_cell HQ.out 1
  have k2 := blk_cell HQ.out 2
  have k3 := blk_cell HQ.out 3
  simp at k0 k1 k2 k3
  go_wp2_with fail
  refine (CR.out _ _ _ HB.out RL.out RG.out).mono ?_
  rintro e w3 ⟨rfl, hb⟩
  replace HB := hd (HB.out.trans (hb.mono (HB.out.size)))
  clear hb k0 k1 k2 k3
  go_wp2_with fail
  refine (HA.out _).mono ?_
  rintro e w4 ⟨rfl, hb⟩
  replace HB := hd (HB.out.trans (hb.mono (HB.out.size)))
  clear hb
  go_wp2_with fail
  go_returns
  exact ⟨rfl, HB.out⟩

set_option maxRecDepth 1000000 in
set_option maxHeartbeats 4000000 in
theorem back_long3 (HA : Hid Awake) (nm : ByteArray) (st : Int) (A A2 : Option Addr) (c c2 : Nat) (bs : List Nat) (gs : List (Int × Int)) (s : ByteArray) (w : World) (HL : Hid (Rd w w.heap.size (.slice A bs.length c) bs.length (flc bs))) (HG : Hid (Rd w w.heap.size (.slice A2 gs.length c2) gs.length (spc gs))) (S1 : Hid (shortR nm.size bs.length gs.length = true)) (hn : 300 < s.size) (CR : Hid (∀ (W : World) (lv gv : Value), Below w.heap.size w W → Rd W W.heap.size lv bs.length (flc bs) → Rd W W.heap.size gv gs.length (spc gs) → Calls Tryz.prog 11 #[.agg #[.string nm, .int .i64 st, lv, gv]] W fun e w' => e = .returned (.int .i64 0) ∧ Below W.heap.size W w')) :
    Calls Tryz.prog 4 #[.agg #[.string nm, .int .i64 st, .slice A bs.length c, .slice A2 gs.length c2], .string s] w fun e w' => e = .returned (.bool true) ∧ Below w.heap.size w w' := by
  have hb1 := (Below.refl w.heap.size w).alloc (Nat.le_refl _) (Obj.cells #[.string nm, .int .i64 st, .slice A bs.length c, .slice A2 gs.length c2] 25)
  have HQ := hd (blk_new w #[.string nm, .int .i64 st, .slice A bs.length c, .slice A2 gs.length c2] 25)
  have RL := hd ((HL.out.below hb1 (Nat.le_refl _)).mono hb1.size)
  have RG := hd ((HG.out.below hb1 (Nat.le_refl _)).mono hb1.size)
  have HB := hd hb1
  clear hb1
  have hlen : (300 : Int) < (s.size : Int) := by omega
  clear hn
  go_enter Tryz.func4, Tryz.ntmps4
  go_wp2_with fail
  refine (HA.out _).mono ?_
  rintro e w1 ⟨rfl, hb⟩
  replace HQ := hd ((hb.block _ (blk_lt HQ.out)).trans HQ.out)
  replace RL := hd ((RL.out.below hb (Nat.le_refl _)).mono hb.size)
  replace RG := hd ((RG.out.below hb (Nat.le_refl _)).mono hb.size)
  replace HB := hd (HB.out.trans (hb.mono (HB.out.size)))
  clear hb
  have k0 := blk_cell HQ.out 0
  have k1 := blk_cell HQ.out 1
  have k2 := blk_cell HQ.out 2
  have k3 := blk_cell HQ.out 3
  simp at k0 k1 k2 k3
  go_wp2_with fail
  refine (short_any nm st A A2 bs.length c gs.length c2 _).mono ?_
  rw [S1.out]
  rintro e w2 ⟨rfl, hb⟩
  replace HQ := hd ((hb.block _ (blk_lt HQ.out)).trans HQ.out)
  replace RL := hd ((RL.out.below hb (Nat.le_refl _)).mono hb.size)
  replace RG := hd ((RG.out.below hb (Nat.le_refl _)).mono hb.size)
  replace HB := hd (HB.out.trans (hb.mono (HB.out.size)))
  clear hb k0 k1 k2 k3
  have k0 := blk_cell HQ.out 0
  have k1 := blk_cell HQ.out 1
  have k2 := blk_cell HQ.out 2
  have k3 := blk_cell HQ.out 3
  simp at k0 k1 k2 k3
  go_wp2_with fail
  refine (CR.out _ _ _ HB.out RL.out RG.out).mono ?_
  rintro e w3 ⟨rfl, hb⟩
  replace HB := hd (HB.out.trans (hb.mono (HB.out.size)))
  clear hb k0 k1 k2 k3
  go_wp2_with fail
  refine (HA.out _).mono ?_
  rintro e w4 ⟨rfl, hb⟩
  replace HB := hd (HB.out.trans (hb.mono (HB.out.size)))
  clear hb
  go_wp2_with fail
  go_returns
  exact ⟨rfl, HB.out⟩

theorem txB_small (nm : ByteArray) (st : Int) (bs : List Nat) (gs : List (Int × Int)) (hst : 0 ≤ st ∧ st ≤ 100000) (hl : ∀ i, i < bs.length → chkLev (bs.getD i 0) = 0) : ∀ k, k ≤ bs.length → 8 ≤ (txB nm st bs gs k).size ∧ (txB nm st bs gs k).size ≤ 64 + nm.size + 40 * k
  | 0, _ => by
    have h1 := itB_small st (by omega)
    rw [txB]
    simp only [ByteArray.size_append]
    have e1 : (⟨#[103, 97, 117, 103, 101, 32]⟩ : ByteArray).size = 6 := rfl
    have e2 : (⟨#[32]⟩ : ByteArray).size = 1 := rfl
    have e3 : (⟨#[10]⟩ : ByteArray).size = 1 := rfl
    omega
  | k + 1, hk => by
    have ih := txB_small nm st bs gs hst hl k (by omega)
    obtain ⟨-, t1, t2⟩ := sixt_of (show levOK (bs.getD k 0) = true by rw [levOK_iff]; simpa using hl k (by omega))
    have h2 := itB_small (s16 (bs.getD k 0)) (by omega)
    have e3 : (⟨#[10]⟩ : ByteArray).size = 1 := rfl
    have e4 : (⟨#[45, 10]⟩ : ByteArray).size = 2 := rfl
    rw [txB]
    split
    · simp only [ByteArray.size_append]; omega
    · simp only [ByteArray.size_append]; omega
theorem txt_chk {s : ByteArray} (h : txtE s = 0) : chkRec (tNm s) (tSt s) (tBs s) (tGs s) = 0 := by
  unfold txtE at h
  by_cases hq : synB s = true
  · rw [if_pos hq] at h; cases h
  · rw [if_neg hq] at h; exact h
theorem cells_take (B : ByteArray) (k : Nat) : Lib.strCells (B.extract 0 k) = (Lib.strCells B).take k := by
  unfold Lib.strCells
  rw [Lib.extract_data, List.drop_zero, Nat.sub_zero, List.map_take]
theorem cells_zero (B : ByteArray) : Lib.strCells (B ++ ⟨#[0]⟩) = Lib.strCells B ++ [.int .u8 0] := by
  unfold Lib.strCells
  simp
theorem one_strR (B : ByteArray) : ∀ u ∈ Lib.strCells B, u.oneCell' = true := fun u hu => by
  unfold Lib.strCells at hu
  obtain ⟨x, -, rfl⟩ := List.mem_map.1 hu
  rfl
theorem back_all (HA : Hid Awake) (nm : ByteArray) (st : Int) (v2 v3 : Value) (bs : List Nat) (gs : List (Int × Int)) (s : ByteArray) (w : World) (hl : Rd w w.heap.size v2 bs.length (flc bs)) (hg : Rd w w.heap.size v3 gs.length (spc gs)) (fl : Full v2) (fg : Full v3) (hs : nm.size ≤ maxLen)
    (h32 : ∀ j, j < bs.length → bs.getD j 0 < 4294967296) (m : Int) (hm : w.cell? ⟨2, 0, none⟩ = some (.int .i64 m)) (ht : Lib.TabIs Tryz.prog w "internal/strconv.uint64pow10" .u64 Lib.pow10Tab) :
    Calls Tryz.prog 4 #[.agg #[.string nm, .int .i64 st, v2, v3], .string s] w fun e w' => e = .returned (.bool true) ∧ Below w.heap.size w w' := by
  obtain ⟨A, c, rfl, -⟩ := id hl
  obtain ⟨A2, c2, rfl, -⟩ := id hg
  cases h1 : shortR nm.size bs.length gs.length
  · exact back_long1 HA nm st A A2 c c2 bs gs s w (hd hl) (hd hg) (hd h1)
  · have CR := fun (W : World) (lv gv : Value) (_ : Below w.heap.size w W) (k1 : Rd W W.heap.size lv bs.length (flc bs)) (k2 : Rd W W.heap.size gv gs.length (spc gs)) => refRec_any nm st lv gv bs gs W k1 k2 hs
    by_cases hE : chkRec nm st bs gs = 0
    · rw [hE] at CR
      by_cases h5 : 300 < s.size
      · exact back_long3 HA nm st A A2 c c2 bs gs s w (hd hl) (hd hg) (hd h1) h5 (hd CR)
      · have hM : ∀ W, Below w.heap.size w W → W.cell? ⟨2, 0, none⟩ = some (.int .i64 m) := fun W hW => (hW.cell (p := ⟨2, 0, none⟩) (World.block_lt_of_cell? _ _ hm)).trans hm
        have hT : ∀ W, Below w.heap.size w W → Lib.TabIs Tryz.prog W "internal/strconv.uint64pow10" .u64 Lib.pow10Tab := fun W hW => Joins.tab_stays (g := 1) (by kernel_rfl) ht hW (Nat.le_refl _)
        obtain ⟨V, -, hlev⟩ := valid_of hE hs
        have hst := V.start
        have hmo := V.most
        have hsp := (chkSpans_ok gs V.spans).1
        have hsh : nm.size ≤ 60 ∧ bs.length ≤ 40 ∧ gs.length ≤ 8 := by
          unfold shortR at h1
          simp only [Bool.and_eq_true, Bool.or_eq_true, decide_eq_true_eq] at h1
          omega
        obtain ⟨B, hB⟩ := encV_str nm st bs gs (by omega)
        have hBs : B.size = 17 + nm.size + 8 * gs.length + 4 * bs.length := by rw [← encV_size, ← hB, Lib.strCells_length]
        have hcs := txB_small nm st bs gs hst hlev bs.length (Nat.le_refl _)
        obtain ⟨p1, p2, p3, p4, p5⟩ := print_read V hlev
        obtain ⟨q1, q2⟩ := print_torn V hlev _ rfl
        obtain ⟨r1, r2, r3, r4, r5⟩ := stream_read V hlev h32 hB
        have GE := fun (W : World) (lv gv : Value) (hW : Below w.heap.size w W) (k1 : Rd W W.heap.size lv bs.length (flc bs)) (k2 : Rd W W.heap.size gv gs.length (spc gs)) => gPrint_any nm st lv gv bs gs W k1 k2 V (fun X hX => hT X (hW.trans (hX.mono hW.size)))
        obtain ⟨code, hcode⟩ : ∃ x, x = txB nm st bs gs bs.length := ⟨_, rfl⟩
        rw [← hcode] at GE hcs p1 p2 p3 p4 p5 q1 q2
        have GD := fun (W : World) (hW : Below w.heap.size w W) => show Calls Tryz.prog 10 #[.string code] W (ParsOk nm st (tBs code) gs W) from by
          refine (gParse_any code m W (by omega) (hM W hW)).mono ?_
          rintro e w' ⟨hb, ⟨-, LV, GV, rfl, k1, k2⟩ | ⟨h0, -⟩⟩
          · obtain ⟨A3, c3, rfl, -⟩ := id k1
            rw [p4] at k2
            obtain ⟨A4, c4, rfl, -⟩ := id k2
            exact ⟨A3, A4, c3, c4, by rw [p2, p3], hb, hd k1, hd k2⟩
          · exact absurd p1 h0
        have CE := fun (W : World) (lv gv : Value) (_ : Below w.heap.size w W) (k1 : Rd W W.heap.size lv bs.length (flc bs)) (k2 : Rd W W.heap.size gv gs.length (spc gs)) => show Calls Tryz.prog 15 #[.agg #[.string nm, .int .i64 st, lv, gv]] W (fun e w' => ∃ g c, e = .returned (.tuple #[.slice (some ⟨g, 0, none⟩) B.size c, .int .i64 0]) ∧ B.size ≤ c ∧ Below W.heap.size W w' ∧ Hid (Rd w' w'.heap.size (.slice (some ⟨g, 0, none⟩) B.size c) B.size (Lib.strCells B))) from by
          refine (encode_any nm st lv gv bs gs W k1 k2 V).mono ?_
          rintro e w' ⟨v, rfl, hown, hb⟩
          rw [encV_size, ← hBs, ← hB] at hown
          have hrd := rd_of_own hown
          obtain ⟨A3, c3, rfl, hA⟩ := own_form hown
          obtain ⟨g, rfl⟩ := hA (by omega)
          obtain ⟨A4, c4, e4, hc4, -⟩ := id hrd
          injection e4 with e5 e6 e7
          exact ⟨g, c3, rfl, by omega, hb, hd hrd⟩
        have D0 := fun (W : World) (A : Option Addr) (c : Nat) (k1 : Rd W W.heap.size (.slice A B.size c) B.size (Lib.strCells B)) => show Calls Tryz.prog 16 #[.slice A B.size c] W (DecOk nm st (encL bs) gs W) from by
          refine (decode_any B A c W k1 (by omega)).mono ?_
          rintro e w' ⟨hb, ⟨-, LV, GV, rfl, k1, k2⟩ | ⟨h0, -⟩⟩
          · rw [r5] at k1
            rw [r4] at k2
            obtain ⟨A3, c3, rfl, -⟩ := id k1
            obtain ⟨A4, c4, rfl, -⟩ := id k2
            exact ⟨A3, A4, c3, c4, by rw [r2, r3], hb, hd k1, hd k2⟩
          · exact absurd r1 h0
        have hB1 : (B.extract 0 (B.size - 1)).size = B.size - 1 := by simp
        have t1 : decE (B.extract 0 (B.size - 1)) = 29 := stream_torn V (by rw [cells_take, hB, encV_size, hBs])
        have D1 := fun (W : World) (A : Option Addr) (c : Nat) (k1 : Rd W W.heap.size (.slice A (B.size - 1) c) (B.size - 1) ((Lib.strCells B).take (B.size - 1))) => show Calls Tryz.prog 16 #[.slice A (B.size - 1) c] W (DecNo 29 W) from by
          rw [← cells_take] at k1
          have h := decode_any (B.extract 0 (B.size - 1)) A c W (by rw [hB1]; exact k1) (by omega)
          rw [hB1] at h
          refine h.mono ?_
          rintro e w' ⟨hb, ⟨h0, -⟩ | ⟨-, rfl⟩⟩
          · rw [t1] at h0; cases h0
          · exact ⟨by rw [t1], hb⟩
        have hB2 : (B ++ (⟨#[0]⟩ : ByteArray)).size = B.size + 1 := by simp; rfl
        have t2 : decE (B ++ ⟨#[0]⟩) = 2 := stream_more V (.int .u8 0) (by rw [cells_zero, hB])
        have D2 := fun (W : World) (A : Option Addr) (c : Nat) (k1 : Rd W W.heap.size (.slice A (B.size + 1) c) (B.size + 1) (Lib.strCells B ++ [.int .u8 0])) => show Calls Tryz.prog 16 #[.slice A (B.size + 1) c] W (DecNo 2 W) from by
          rw [← cells_zero] at k1
          have h := decode_any (B ++ ⟨#[0]⟩) A c W (by rw [hB2]; exact k1) (by omega)
          rw [hB2] at h
          refine h.mono ?_
          rintro e w' ⟨hb, ⟨h0, -⟩ | ⟨-, rfl⟩⟩
          · rw [t2] at h0; cases h0
          · exact ⟨by rw [t2], hb⟩
        have PS := fun (W : World) (hW : Below w.heap.size w W) => gParse_any s m W (by omega) (hM W hW)
        have PP := fun (h0 : txtE s = 0) (W : World) (lv gv : Value) (hW : Below w.heap.size w W) (k1 : Rd W W.heap.size lv (tBs s).length (flc (tBs s))) (k2 : Rd W W.heap.size gv (tGs s).length (spc (tGs s))) => show Calls Tryz.prog 8 #[.agg #[.string (tNm s), .int .i64 (tSt s), lv, gv]] W (fun e w' => e = .returned (.tuple #[.string s, .int .i64 0]) ∧ Below W.heap.size W w') from by
          have hz : (tNm s).size ≤ maxLen := by have := tNm_size s; unfold maxLen; omega
          have h := gPrint_any (tNm s) (tSt s) lv gv (tBs s) (tGs s) W k1 k2 (valid_of (txt_chk h0) hz).1 (fun X hX => hT X (hW.trans (hX.mono hW.size)))
          rw [read_print h0 (by omega)] at h
          exact h
        have PT := fun (W : World) (hW : Below w.heap.size w W) => show Calls Tryz.prog 10 #[.string (code.extract 0 (code.size - 1))] W (fun e w' => e = .returned (.tuple #[.agg #[.string ⟨#[]⟩, .int .i64 0, .slice none 0 0, .slice none 0 0], .int .i64 ((bs.length : Nat) : Int), .int .i64 26]) ∧ Below W.heap.size W w') from by
          have hz : (code.extract 0 (code.size - 1)).size ≤ code.size := by simp
          refine (gParse_any _ m W (by omega) (hM W hW)).mono ?_
          rintro e w' ⟨hb, ⟨h0, -⟩ | ⟨-, rfl⟩⟩
          · rw [q1] at h0; cases h0
          · exact ⟨by rw [q1, q2], hb⟩
        exact back_ok HA nm st A A2 c c2 bs (tBs code) (encL bs) gs s code B.size (Lib.strCells B) w (hd hl) (hd hg) (hd fl) (hd fg) (hd h1) (hd ⟨by omega, by omega⟩) (by omega) (by omega) (by omega) (by omega) (by omega) (hd (Lib.strCells_length B)) (hd (one_strR B)) (hd p5) (hd (encL_same hlev)) (hd CR) (hd GE) (hd GD) (hd CE) (hd D0) (hd D1) (hd D2) (hd PS) (hd PP) (hd PT)
    · exact back_long2 HA nm st A A2 c c2 bs gs s w (hd hl) (hd hg) (hd h1) _ (by simpa using hE) (hd CR)
set_option maxRecDepth 1000000 in
/-- The table of powers of ten, of the row's condition. -/
theorem tab_of_laidB {W : World} (h : laidMetH Tryz.prog Rows.gaugeBackRow.laid W) : Lib.TabIs Tryz.prog W "internal/strconv.uint64pow10" .u64 Lib.pow10Tab := by
  have h1 := h.filter (fun x => x.1 == "internal/strconv.uint64pow10")
  rw [show (Rows.gaugeBackRow.laid.filter (fun x => x.1 == "internal/strconv.uint64pow10")) = [("internal/strconv.uint64pow10", Lib.tabData .u64 Lib.pow10Tab)] by kernel_rfl] at h1
  rw [MakeChecks.laidMetH_plain _ _ _ (by kernel_rfl)] at h1
  exact Lib.tabIs_of_head (g := 1) (t := 234) (e := 206) (n := 20) (by kernel_rfl) (by kernel_rfl) Tryz.underlying234 Tryz.underlying206 (by kernel_rfl) (by kernel_rfl) h1
end Go.Proofs.YtnncmaegmlaabaaGreatDoor

namespace Go.Proofs.YtnncmaegmlaabaaGreatDoor
open Go Go.ChangeShapes Go.WideShapes Go.ChangeAt Go.RowKit Go.Joins
open Go.ChangeMaps (open_string)
set_option linter.constructorNameAsVariable false

set_option maxRecDepth 1000000 in
/-- The start that the door's own run leaves meets the row's condition on the listed variables. -/
theorem gaugeBack_met (os : Os) (args : Array Value) : laidMetH Tryz.prog Rows.gaugeBackRow.laid ((World.laidAll Tryz.prog os Rows.gaugeBackRow.laid).forCall (fun _ _ => 0) ⟨#[], args, []⟩).memory := by
  rw [MakeChecks.laidMetH_plain _ _ _ (by kernel_rfl)]
  exact laidMet_laidAll _ (by kernel_rfl) (by kernel_rfl)

set_option maxRecDepth 1000000 in
theorem back_call {H : Type} {enc : TypeId × Value → H} (W : World) (base : Nat) (args : Array Value) (ds gs : List (DataW H)) (before : List MemPlace)
    (hval0 : ∀ (j : Nat) t v, Tryz.f4.params[j]? = some t → args[j]? = some v → Value.okWide Tryz.prog W .any base t v)
    (hW : DataW.Whole enc Tryz.prog Tryz.f4.params.toList Rows.gaugeBackSpec.vars false W args.toList ds gs before) (hL : laidMetH Tryz.prog Rows.gaugeBackRow.laid W) (hsh : W.ShapedOpen Tryz.prog) :
    Calls Tryz.prog 4 args W fun e W' => ∃ v, e = .returned v ∧ Rows.gaugeBackSpec.post enc Tryz.prog Tryz.f4 false true false false W args v W' := by
  have hval : ∀ (j : Nat) t v, Tryz.f4.params[j]? = some t → args[j]? = some v → Value.okWide Tryz.prog W .any base t v := hval0
  have hW' := hW
  obtain ⟨p, q, hA0, hV, rfl, hfz, hnd⟩ := hW
  have hA : DataW.TrodAll enc Tryz.prog W 0 (fun _ => true) true Tryz.f4.params.toList args.toList ds p := hA0
  rw [Tryz.params4] at hA hval
  obtain ⟨rfl, rfl⟩ := trodVars_none hV
  obtain ⟨v0, v1, d0, d1, p0, p1, rfl, rfl, rfl, h0, h1⟩ := trodAll_two hA
  obtain ⟨c0, c1, c2, c3, y0, y1, y2, y3, m, rfl, rfl, rfl, hy0, hy1, hy2, hy3⟩ := open_agg4 Tryz.underlying25 (by kernel_rfl) (show Tryz.prog.cellsOf 25 = 4 by kernel_rfl) (hval 0 25 v0 rfl rfl) h0
  obtain ⟨nm, k0, -, hs⟩ := DataW.trod_string Tryz.underlying9 hy0
  obtain ⟨st, k1, -⟩ := DataW.trod_int Tryz.underlying3 hy1
  obtain ⟨bs, hl, fl, h32⟩ := open_levels32 hy2
  obtain ⟨gs, hg, fg⟩ := open_gaps hy3
  obtain ⟨sb, rfl, rfl, rfl, -⟩ := open_string Tryz.underlying9 (hval 1 9 v1 rfl rfl) h1
  simp at k0 k1
  subst k0 k1
  obtain ⟨mx, hmx⟩ := cell_of_shapedOpen_int (P := Tryz.prog) (g := 2) (t := 3) (zero := #[.int .i64 0]) hsh (of_decide_eq_true (by kernel_rfl)) (by kernel_rfl) rfl (by kernel_rfl) (by kernel_rfl) Tryz.underlying3
  refine (back_all (hd awake_any) nm st c2 c3 bs gs sb W hl hg fl fg hs h32 mx hmx (tab_of_laidB hL)).mono ?_
  rintro e W' ⟨rfl, hB⟩
  exact ⟨_, rfl, law_post rfl rfl rfl rfl rfl (fun t ht => by
    have hm : t ∈ [25, 9] := by simpa [Tryz.params4] using ht
    have hall : ([25, 9].all fun u => Tryz.prog.readableRec u && decide (u < Tryz.prog.types.size)) = true := by kernel_rfl
    simpa using List.all_eq_true.1 hall t hm) hW' hB⟩


set_option maxRecDepth 1000000 in
theorem gaugeBack_lifted (os : Os) (started : os.Started) (H : Type) (enc : TypeId × Value → H) :
    ReturnsInHanded {} Tryz.checked os 4 .any (fun w args => (Rows.gaugeBackSpec.pre enc Tryz.prog Tryz.f4 [] false w args ∧ laidMetH Tryz.prog Rows.gaugeBackRow.laid w) ∧ sizedMet enc Tryz.prog Tryz.f4 (OpenSpec.ofChange Rows.gaugeBackSpec) false w args)
      (Rows.gaugeBackSpec.post enc Tryz.prog Tryz.f4 false true false false) := by
  refine returnsInHanded_of_calls own started (by kernel_rfl) (ChangeSpec.witness_shaped (enc := enc) (C := Tryz.checked) (os := os) (X := fun w _ => laidMetH Tryz.prog Rows.gaugeBackRow.laid w) false (World.laidAll Tryz.prog os Rows.gaugeBackRow.laid) #[.agg #[.string ⟨#[]⟩, .int .i64 0, .slice none 0 0, .slice none 0 0], .string ⟨#[]⟩] 8 (World.laidAll_os _ _ _) (World.shaped_of_ZipB (by kernel_rfl) (by kernel_rfl)) (by kernel_rfl) (by kernel_rfl) (by kernel_rfl) (gaugeBack_met os _)) ?_
  intro w tape i _ hsh0 _ hok hpre _
  obtain ⟨_, _, _, fn', hfn', _, _, _, _, hval1⟩ := hok
  have efn : fn' = Tryz.f4 := Option.some.inj (hfn'.symm.trans Tryz.func4)
  subst efn
  obtain ⟨⟨⟨ds, gs, before, hW0, -⟩, hL0⟩, -⟩ := hpre
  have hW1 := DataW.Whole.of_heap (w' := w.forCall tape i) (by rfl) hW0
  have hL1 : laidMetH Tryz.prog Rows.gaugeBackRow.laid (w.forCall tape i) := hL0.of_heap (by rfl)
  refine (back_call (w.forCall tape i) w.heap.size i.args ds gs before hval1 hW1 hL1 hsh0).mono fun e W' ⟨v, he, hp⟩ => ?_
  subst he
  exact ChangeSpec.post_blind hp

set_option maxRecDepth 1000000 in
theorem gaugeBack_holds : Rows.GaugeBackSaid :=
  OpenClaim.holds_of_wide 4 Tryz.f4 rfl rfl rfl rfl rfl rfl rfl ⟨rfl, rfl, rfl, rfl, rfl⟩ rfl rfl rfl rfl rfl (by kernel_rfl) Tryz.func4 (by kernel_rfl)
    (of_decide_eq_true (by kernel_rfl)) (by unfold Func.isWrapper; first | (rw [if_pos (by decide +kernel)]; kernel_rfl) | (rw [if_neg (by decide +kernel)]; exact ⟨rfl, rfl⟩))
    (fun os started H enc _ => gaugeBack_lifted os started H enc)

set_option maxRecDepth 1000000 in
theorem gaugeBack_card : Rows.GaugeBackCardSaid :=
  Claim7.holds_tied_plain_at .later [] [.data, .data, .data, .data, .pinned] true (true, "bbee303f417b5fecf44f3860c80dd4b76ab3a056c82a749920830982b0dc032a") false
    gaugeBack_holds (fun _ h => by cases h) (by kernel_rfl) (fun _ h => by cases h) gaugeBack_row_tie rfl ⟨rfl, rfl⟩ (by kernel_rfl) rfl
    (fun f fn hf hfn => by
      obtain rfl : f = 4 := Option.some.inj ((show Tryz.prog.funcNamed "tideway/tidewaylaw01.GaugeBack" = some 4 by kernel_rfl).symm.trans hf) |>.symm
      obtain rfl : fn = Tryz.f4 := (Option.some.inj (Tryz.func4.symm.trans hfn)).symm
      exact ⟨by kernel_rfl, fun j t ht => by
        rw [Tryz.params4] at ht
        have hm : t ∈ [25, 9] := by simpa using Array.mem_of_getElem? ht
        have hall : ([25, 9].all fun u => !Tryz.prog.wantsStandIn u) = true := by kernel_rfl
        exact (show Tryz.prog.wantsStandIn t = false by simpa using List.all_eq_true.1 hall t hm)⟩)
    (by kernel_rfl)
end Go.Proofs.YtnncmaegmlaabaaGreatDoor
