/-
  Contract of gauge.combine, given what gauge.ends gives. Conditions: two valid lists of spans.
  Contract of gauge.ends for two lists of spans. Condition: at most 4000 spans each.
  Contracts of gauge.Join, Meet and Minus. Conditions: two valid lists of spans, the result of at most 2048 spans.
-/
import Derived.Test.YtnncmaegmlaabaaGreatDoorProg
import Derived.Test.YtnncmaegmlaabaaGreatDoorV1
import Derived.Test.YtnncmaegmlaabaaGreatDoorK5
import Derived.Test.YtnncmaegmlaabaaGreatDoorMF
import Derived.Test.YtnncmaegmlaabaaGreatDoorShelfB
import Derived.Sort.OwnSortedInts

namespace Go.Proofs.YtnncmaegmlaabaaGreatDoor
open Go.RowKit

/-- What the first k parts between cuts give. -/
def combK (a b : List (Int × Int)) (kp : Bool → Bool → Bool) (cl : List Int) : Nat → List (Int × Int)
  | 0 => []
  | k + 1 => if kp (cov a (cl.getD k 0)) (cov b (cl.getD k 0)) = true then ext (combK a b kp cl k) (cl.getD k 0) (cl.getD (k + 1) 0) else combK a b kp cl k
theorem combK_len (a b : List (Int × Int)) (kp : Bool → Bool → Bool) (cl : List Int) : ∀ k, (combK a b kp cl k).length ≤ k
  | 0 => Nat.le_refl _
  | k + 1 => by
    rw [combK]
    have := combK_len a b kp cl k
    split
    · exact Nat.le_trans (ext_len _ _ _) (by omega)
    · omega

set_option maxRecDepth 1000000 in
set_option maxHeartbeats 4000000 in
theorem combine_any (g : Nat) (kp : Bool → Bool → Bool) (hg : Keeps2 g kp) (sa sb : Value) (a b : List (Int × Int)) (cl : List Int) (w : World) (ha : Rd w w.heap.size sa a.length (spc a)) (hb : Rd w w.heap.size sb b.length (spc b)) (h0a : chkSpans a = 0) (h0b : chkSpans b = 0)
    (hE : ∀ (W : World) (sl : Value), Below w.heap.size w W → Rd W W.heap.size sl 2 [sa, sb] → Calls Tryz.prog 119 #[sl] W (OwnsIn W.heap.size cl W)) (hcl : cl.length ≤ 10000) :
    Calls Tryz.prog 80 #[sa, sb, .func (.func g) #[] #[]] w fun e w' =>
      if 2048 < (combK a b kp cl (cl.length - 1)).length then e = .returned (.tuple #[.slice none 0 0, .int .i64 5]) ∧ Below w.heap.size w w'
      else ∃ v, e = .returned (.tuple #[v, .int .i64 0]) ∧ w'.ownsRow w.heap.size 63 2 v (combK a b kp cl (cl.length - 1)).length (spc (combK a b kp cl (cl.length - 1))) ∧ Below w.heap.size w w' := by
  have HA := hd ha
  have HB := hd hb
  have ha2 := ha
  have hb2 := hb
  obtain ⟨A1, c1, rfl, hq1, hq2, -⟩ := ha2
  obtain ⟨A2, c2, rfl, hq3, hq4, -⟩ := hb2
  have HG := hd hg
  have HE := hd hE
  have hent := hg.enter
  have HZ := hd (And.intro h0a h0b)
  have hz := hd (show fst0 [0, 0] = 0 by simp [fst0])
  clear ha hb hg hE h0a h0b
  go_enter Tryz.func80, Tryz.ntmps80
  go_wp2_with fail
  refine (chkSpans_zero _ a _ HA.out HZ.out.1).mono ?_
  rintro e w1 ⟨rfl, hb1⟩
  go_wp2_with fail
  refine (chkSpans_zero _ b _ ((HB.out.below hb1 (Nat.le_refl _)).mono hb1.size) HZ.out.2).mono ?_
  rintro e w2 ⟨rfl, hb2⟩
  go_wp2_with (go_at_call 49; refine (first2 _ _ _ _).mono ?_; rintro e w' ⟨rfl, rfl⟩; rw [hz.out])
  have hb12 : Below w.heap.size w w2 := hb1.trans (hb2.mono hb1.size)
  have hb3 := (hb12.alloc hb12.size (Obj.cells #[.int .i64 0, .int .i64 0] 28)).alloc (by have := hb12.size; simp; omega) (Obj.cells #[.slice A1 a.length c1, .slice A2 b.length c2] 23)
  have hR := Rd.new (w2.alloc (Obj.cells #[.int .i64 0, .int .i64 0] 28)) #[.slice A1 a.length c1, .slice A2 b.length c2] 23 2 [.slice A1 a.length c1, .slice A2 b.length c2] rfl (by decide)
  have e3 : (((w2.alloc (Obj.cells #[.int .i64 0, .int .i64 0] 28)).alloc (Obj.cells #[.slice A1 a.length c1, .slice A2 b.length c2] 23)).heap.size) = w2.heap.size + 1 + 1 := by simp
  have e4 : (w2.alloc (Obj.cells #[.int .i64 0, .int .i64 0] 28)).heap.size = w2.heap.size + 1 := by simp
  rw [e4] at hR
  clear e3 e4
  generalize (w2.alloc (Obj.cells #[.int .i64 0, .int .i64 0] 28)).alloc (Obj.cells #[.slice A1 a.length c1, .slice A2 b.length c2] 23) = w3 at hb3 hR ⊢
  refine (HE.out _ _ hb3 hR).mono ?_
  rintro e w4 ⟨v, rfl, hov, hb4⟩
  obtain ⟨A4, c4, rfl, hA4⟩ := own_form hov
  have hb04 := hb3.trans (hb4.mono hb3.size)
  have HA4 := hd hA4
  have HOV := hd hov
  have HB4 := hd hb04
  have hla := Nat.le_trans (chkSpans_ok a HZ.out.1).1 (show 2048 ≤ 100000 by omega)
  have hlb := Nat.le_trans (chkSpans_ok b HZ.out.2).1 (show 2048 ≤ 100000 by omega)
  have HAS := hd (And.intro (asc_of a HZ.out.1) (asc_of b HZ.out.2))
  clear hb1 hb2 hb12 hb3 hb4 hb04 hR hov hA4 hz
  go_wp2
  go_loopw [9, 11] (fun o i wr => ∃ k : Nat, k ≤ cl.length - 1 ∧ i = .int .i64 ((k : Int) + 1) ∧ Hid (wr.ownsRow w.heap.size 63 2 o (combK a b kp cl k).length (spc (combK a b kp cl k))) ∧ Hid (wr.ownsRow w3.heap.size 3 1 (.slice A4 cl.length c4) cl.length (cl.map (Value.int .i64))) ∧ Below w.heap.size w wr) (fun _ i _ => cl.length - (intOf i).toNat)
  case atStart => exact ⟨0, Nat.zero_le _, rfl, hd (World.ownsRow_nil _ _ _ _), HOV, HB4.out⟩
  case round =>
    obtain ⟨k, hk, rfl, HO, HC, hb⟩ := hrel
    obtain ⟨A5, c5, hv5, -⟩ := own_form HO.out
    subst hv5
    by_cases hlt : k + 1 < cl.length
    · obtain ⟨g4, rfl⟩ := HA4.out (by omega)
      have q0 := HC.out.cellAt k (by omega)
      have q1 := HC.out.cellAt (k + 1) (by omega)
      have hg4 := (HC.out.lt g4 rfl).2
      rw [show (cl.map (Value.int .i64))[k]? = some (.int .i64 (cl.getD k 0)) by simp [show k < cl.length by omega]] at q0
      rw [show (cl.map (Value.int .i64))[k + 1]? = some (.int .i64 (cl.getD (k + 1) 0)) by simp [hlt]] at q1
      have HK := hd (show combK a b kp cl (k + 1) = if kp (cov a (cl.getD k 0)) (cov b (cl.getD k 0)) = true then ext (combK a b kp cl k) (cl.getD k 0) (cl.getD (k + 1) 0) else combK a b kp cl k from rfl)
      have hkl := combK_len a b kp cl k
      generalize cl.getD k 0 = f at q0 HK
      generalize cl.getD (k + 1) 0 = t at q1 HK
      generalize combK a b kp cl k = L at *
      have F0 : ∀ p : Bw wr, p.out.cell? ⟨g4, k, none⟩ = some (.int .i64 f) := fun p => p.cell hg4 q0
      have F1 : ∀ p : Bw wr, p.out.cell? ⟨g4, k + 1, none⟩ = some (.int .i64 t) := fun p => p.cell hg4 q1
      have HBW := hd hb
      clear q0 q1 hb
      go_wp2_with fail
      have c0 := F0 ⟨wr, Below.refl _ _⟩
      have c1' := F1 ⟨wr, Below.refl _ _⟩
      dsimp only at c0 c1'
      clear F0 F1
      go_region
      have hbA : Below wr.heap.size wr (wr.alloc (Obj.cells #[.int .i64 f, .int .i64 t] 63)).drew := ((Below.refl _ wr).alloc (Nat.le_refl _) _).drew
      have d0 : (wr.alloc (Obj.cells #[.int .i64 f, .int .i64 t] 63)).drew.cell? ⟨wr.heap.size, 0, none⟩ = some (.int .i64 f) := by simp
      have d1 : (wr.alloc (Obj.cells #[.int .i64 f, .int .i64 t] 63)).drew.cell? ⟨wr.heap.size, 1, none⟩ = some (.int .i64 t) := by simp
      have hs3 : (wr.alloc (Obj.cells #[.int .i64 f, .int .i64 t] 63)).drew.heap.size = wr.heap.size + 1 := by simp
      generalize (wr.alloc (Obj.cells #[.int .i64 f, .int .i64 t] 63)).drew = W3 at hbA d0 d1 hs3 ⊢
      have G0 : ∀ p : Bw W3, p.out.cell? ⟨wr.heap.size, 0, none⟩ = some (.int .i64 f) := fun p => p.cell (by omega) d0
      have G1 : ∀ p : Bw W3, p.out.cell? ⟨wr.heap.size, 1, none⟩ = some (.int .i64 t) := fun p => p.cell (by omega) d1
      have hB3 : Below w.heap.size w W3 := HBW.out.trans (hbA.mono HBW.out.size)
      have HP3 := hd (fun p : Bw W3 => hB3.trans (p.below.mono hB3.size))
      clear d0 d1 c0 c1'
      have HS3 := hd hs3
      clear hs3
      have CA := hd (fun p : Bw W3 => Bw.call p (covers_any (.slice A1 a.length c1) a f p.out ((HA.out.below (HP3.out p) (Nat.le_refl _)).mono (HP3.out p).size) HAS.out.1 hla))
      have CB := hd (fun p : Bw W3 => Bw.call p (covers_any (.slice A2 b.length c2) b f p.out ((HB.out.below (HP3.out p) (Nat.le_refl _)).mono (HP3.out p).size) HAS.out.2 hlb))
      go_wp2_with fail
      refine wp_region_bw (by kernel_rfl) (by kernel_rfl) ?_
      repeat (first | go_big_quiet_step (first | (go_at_call_of 103 (Value.slice A1 a.length c1); exact CA.out _) | (go_at_call 103; exact CB.out _) | (fail_if_success (go_at_call 103); exact Bw.call _ (HG.out.any _ _ _))))
      go_big_quiet_want
      go_big_quiet_op
      refine ⟨_, fun p => Bw.call p (HG.out.any _ _ _), ?_⟩
      go_big_quiet_on
      refine wpQuiet_nil ?_
      rintro ⟨W4, hB4⟩
      change Exit.then _ _ _ _ W4
      have hW4 : Below wr.heap.size wr W4 := hbA.trans (hB4.mono hbA.size)
      have HO4 := hd (own_bel HO.out hW4)
      have HC4 := hd (own_bel HC.out hW4)
      have hB04 := HP3.out ⟨W4, hB4⟩
      have g0 := G0 ⟨W4, hB4⟩
      have g1 := G1 ⟨W4, hB4⟩
      dsimp only at g0 g1 hB04
      have HB04 := hd hB04
      have HS4 := hd (show wr.heap.size ≤ W4.heap.size from hW4.size)
      clear G0 G1 hB4 hW4 hbA hB04 hB3
      cases hkp : kp (cov a f) (cov b f)
      · have HKK := hd (show combK a b kp cl (k + 1) = L by rw [HK.out, hkp]; rfl)
        have hkp2 := hkp
        clear hkp
        go_wp2
        go_roundw
        case rel => exact ⟨k + 1, by omega, by go_num, by rw [HKK.out]; exact HO4, HC4, HB04.out⟩
        case measure => simp [intOf]; omega
      · have HKK := hd (show combK a b kp cl (k + 1) = ext L f t by rw [HK.out, hkp]; rfl)
        have hkp2 := hkp
        clear hkp
        go_wp2_with fail
        refine (ext_any w.heap.size L f t _ W4 HO4.out HB04.out.size (by omega)).mono ?_
        rintro e w5 ⟨v', rfl, hov', hgr, -⟩
        have hin : ∃ cur, W4.heap[g4]? = some (.cells cur 3 (0, 0)) := by
          rcases HC4.out.2 with ⟨hv, _⟩ | ⟨g, cap, cur, hv, _, hh, _⟩
          · cases hv
          · cases hv; exact ⟨_, hh⟩
        obtain ⟨cur, hin⟩ := hin
        have HC5 := hd (HC4.out.kept hgr (.inr (blk_not_row hin (by decide) HO4.out)))
        have HB5 := hd (HB04.out.trans (gb_below hgr HB04.out.size (fun j hj => (HO4.out.lt j hj).1)))
        have HO5 := hd hov'
        clear hin hov' hgr
        go_wp2
        go_roundw
        case rel => exact ⟨k + 1, by omega, by go_num, by rw [HKK.out]; exact HO5, HC5, HB5.out⟩
        case measure => simp [intOf]; omega
    · have hke : k = cl.length - 1 := by omega
      have HKE := hd hke
      clear hke
      have hkl := combK_len a b kp cl k
      by_cases hmany : 2048 < (combK a b kp cl k).length
      · have HM := hd hmany
        have hm' : decide ((2048 : Int) < ((combK a b kp cl k).length : Int)) = true := by simp; omega
        have hm2 : 2048 < (combK a b kp cl (cl.length - 1)).length := by rw [← HKE.out]; exact hmany
        clear hmany
        go_wp2
        go_returns
        exact ⟨rfl, hb⟩
      · have HM := hd hmany
        have hm' : decide ((2048 : Int) < ((combK a b kp cl k).length : Int)) = false := by simp; omega
        have hm2 : ¬ 2048 < (combK a b kp cl (cl.length - 1)).length := by rw [← HKE.out]; exact hmany
        clear hmany
        go_wp2
        go_returns
        have HO2 : wr.ownsRow w.heap.size 63 2 (.slice A5 (combK a b kp cl k).length c5) (combK a b kp cl (cl.length - 1)).length (spc (combK a b kp cl (cl.length - 1))) := by rw [← HKE.out]; exact HO.out
        exact ⟨_, rfl, HO2, hb⟩

end Go.Proofs.YtnncmaegmlaabaaGreatDoor

namespace Go.Proofs.YtnncmaegmlaabaaGreatDoor
open Go.RowKit Go.Shelf Go.Sort

/-- The ends of the first k spans of a list. -/
def endK (l : List (Int × Int)) (k : Nat) : List Int := (l.take k).flatMap fun s => [s.1, s.2]
theorem endK_succ (l : List (Int × Int)) (k : Nat) (h : k < l.length) : endK l (k + 1) = endK l k ++ [(l.getD k (0, 0)).1, (l.getD k (0, 0)).2] := by
  unfold endK
  rw [List.take_succ_eq_append_getElem h, List.flatMap_append]
  simp [h]
theorem endK_len (l : List (Int × Int)) (k : Nat) : (endK l k).length ≤ 2 * k := by
  unfold endK
  rw [List.length_flatMap]
  simp only [List.length_cons, List.length_nil]
  rw [List.map_const', List.sum_replicate_nat, List.length_take]
  omega
def endAll (a b : List (Int × Int)) : List Int := endK a a.length ++ endK b b.length
def cutsOf (a b : List (Int × Int)) : List Int := Lib.compact ((endAll a b).mergeSort fun x y => decide (x ≤ y))
/-- Those of the first k of the two lists. -/
def endP (a b : List (Int × Int)) : Nat → List Int
  | 0 => []
  | 1 => endK a a.length
  | _ => endAll a b

theorem cell_two_new (W : World) (x y : Value) (t : TypeId) : ∀ j u, [x, y][j]? = some u → (W.alloc (.cells #[x, y] t)).cell? ((⟨W.heap.size, 0, none⟩ : Addr).add j) = some u := by
  intro j u h
  have := World.cell?_alloc_new W #[x, y] t j
  match j, h, this with
  | 0, h, this => simp at h; subst h; simp [Addr.add]
  | 1, h, this => simp at h; subst h; simp [Addr.add]
theorem cmp_len (zs : List Int) : (Lib.compact zs).length ≤ zs.length := by
  unfold Lib.compact Lib.compactUpTo
  rw [List.length_map]
  exact Nat.le_trans (List.length_filter_le _ _) (by simp)
theorem grow_nil (w : World) : grow w #[] = w := by simp [grow]
/-- The first elements of a row. -/
theorem own_pre {W : World} {B : Nat} {e : TypeId} {g n m cap : Nat} {xs ys : List Value} (h : W.ownsRow B e 1 (.slice (some ⟨g, 0, none⟩) n cap) n xs) (hm : m ≤ n) (hx : xs.take m = ys) : W.ownsRow B e 1 (.slice (some ⟨g, 0, none⟩) m cap) m ys := by
  have hl := h.1
  rcases h.2 with ⟨hv, _⟩ | ⟨g', cap', cur, hv, h1, h2, h3, h4, h5, h6⟩
  · cases hv
  · cases hv
    refine ⟨by rw [← hx, List.length_take]; omega, .inr ⟨g, cap, cur, rfl, h1, h2, by omega, h4, h5, ?_⟩⟩
    rw [← hx, ← h6, List.take_take]
    congr 1
    omega

set_option maxRecDepth 1000000 in
set_option maxHeartbeats 4000000 in
theorem ends_any (sl sa sb : Value) (a b : List (Int × Int)) (w : World) (hs : Rd w w.heap.size sl 2 [sa, sb]) (ha : Rd w w.heap.size sa a.length (spc a)) (hb : Rd w w.heap.size sb b.length (spc b)) (hla : a.length ≤ 4000) (hlb : b.length ≤ 4000) :
    Calls Tryz.prog 119 #[sl] w (OwnsIn w.heap.size (cutsOf a b) w) := by
  obtain ⟨i0, hi, hz0, hz1, hz2⟩ := info_parts intInfo
  have HA := hd ha
  have HB := hd hb
  obtain ⟨A1, c1, rfl, hq1, hq2, hcm⟩ := hs
  obtain ⟨b0, off0, rfl, hb0, hcell⟩ := hcm (by omega)
  have HC := hd (And.intro hb0 hcell)
  have HLA := hd (And.intro hla hlb)
  unfold maxLen at hq2
  clear ha hb hcm hcell hla hlb
  go_enter Tryz.func119, Tryz.ntmps119
  go_wp2
  go_loopw [3, 10] (fun o i wr => ∃ k : Nat, k ≤ 2 ∧ i = .int .i64 k ∧ Hid (wr.ownsRow w.heap.size 3 1 o (endP a b k).length ((endP a b k).map (Value.int .i64))) ∧ Below w.heap.size w wr) (fun _ i _ => 2 - (intOf i).toNat)
  case atStart => exact ⟨0, by omega, rfl, hd (World.ownsRow_nil _ _ _ _), Below.refl _ _⟩
  case round =>
    obtain ⟨k, hk, rfl, HO, hbw⟩ := hrel
    obtain ⟨A5, c5, hv5, hA5⟩ := own_form HO.out
    subst hv5
    by_cases hlt : k < 2
    · -- one list
      obtain ⟨l, sv, hsv, hl, hll, hpe, hpl⟩ : ∃ (l : List (Int × Int)) (sv : Value), w.cell? ⟨b0, off0 + k, none⟩ = some sv ∧ Rd w w.heap.size sv l.length (spc l) ∧ l.length ≤ 4000 ∧ endP a b (k + 1) = endP a b k ++ endK l l.length ∧ (endP a b k).length ≤ 8000 := by
        have e := HC.out.2 k (by simpa using hlt)
        have ha := endK_len a a.length
        have := HLA.out
        rcases (show k = 0 ∨ k = 1 by omega) with rfl | rfl
        · exact ⟨a, sa, e, HA.out, HLA.out.1, by simp [endP], by simp [endP]⟩
        · exact ⟨b, sb, e, HB.out, HLA.out.2, by simp [endP, endAll], by simp only [endP]; omega⟩
      have hx := (hbw.cell (p := ⟨b0, off0 + k, none⟩) HC.out.1).trans hsv
      have HL := hd hl
      have hl2 := hl
      obtain ⟨A2, c2, rfl, hq3, hq4, -⟩ := hl2
      unfold maxLen at hq4
      have HPE := hd hpe
      have HBW := hd hbw
      generalize endP a b k = E at *
      have hk2 : decide ((k : Int) < 2) = true := by simp; omega
      clear hsv hl hpe hbw
      go_wp2
      go_loopw [3, 16] (fun o i wq => ∃ j : Nat, j ≤ l.length ∧ i = .int .i64 j ∧ Hid (wq.ownsRow w.heap.size 3 1 o (E ++ endK l j).length ((E ++ endK l j).map (Value.int .i64))) ∧ Below w.heap.size w wq) (fun _ i _ => l.length - (intOf i).toNat)
      case atStart => exact ⟨0, Nat.zero_le _, rfl, hd (by simpa [endK] using HO.out), HBW.out⟩
      case round =>
        obtain ⟨j, hj, rfl, HR, hbq⟩ := hrel
        obtain ⟨A6, c6, hv6, hA6⟩ := own_form HR.out
        subst hv6
        by_cases hjl : j < l.length
        · obtain ⟨A', c', e', -, -, hcm⟩ := (HL.out.below hbq (Nat.le_refl _))
          cases e'
          obtain ⟨b, off, rfl, hbb, hcell⟩ := hcm (by omega)
          obtain ⟨q1, q2⟩ := spc_getD l j hjl
          have hs0 : wr.cell? ⟨b, off + j * 2, none⟩ = some (.int .i64 (l.getD j (0, 0)).1) := (hcell (j * 2) (by rw [spc_len]; omega)).trans q1
          have hs1 : wr.cell? ⟨b, off + j * 2 + 1, none⟩ = some (.int .i64 (l.getD j (0, 0)).2) := (hcell (j * 2 + 1) (by rw [spc_len]; omega)).trans q2
          have HES := hd (endK_succ l j hjl)
          have hel := endK_len l j
          have H63 := hd (show (E ++ endK l j).length + 2 ≤ maxLen by unfold maxLen; simp only [List.length_append]; omega)
          have HBY := hd (show ((E ++ endK l j).length + 2) * 8 ≤ 140737488355328 by simp only [List.length_append]; omega)
          have hbs := hbq.size
          have HBQ := hd hbq
          clear hcell q1 q2 hcm hel hbq hA5 hA6
          generalize (l.getD j (0, 0)).1 = f at *
          generalize (l.getD j (0, 0)).2 = t at *
          go_wp2_with (at_builtin; refine wpList_append_own _ rfl (.tmp 20) (.tmp 25) 55 rfl w.heap.size 3 i0 (.int .i64 0) 1 8 Tryz.underlying55 hi hz0 hz1 hz2 rfl (by decide) _ _ _ rfl ((HR.out.alloc _).alloc _) ⟨wr.heap.size + 1, 0, none⟩ 2 2 [.int .i64 f, .int .i64 t] rfl rfl (by have := cell_two_new (wr.alloc (.cells #[.int .i64 f, .int .i64 t] 63)) (.int .i64 f) (.int .i64 t) 3; simpa using this) (by simp [Value.oneCell']) H63.out HBY.out (by simp; omega) ?_; intro v' w1 hown' hgrow _; have HN := hd (And.intro hown' (gb_below hgrow (show w.heap.size ≤ _ by simp; omega) (fun k hk => (HR.out.lt k hk).1))); clear hown' hgrow)
          go_roundw
          case rel => exact ⟨j + 1, by omega, by go_num, hd (by rw [HES.out, ← List.append_assoc]; simpa [Nat.add_assoc] using HN.out.1), ((HBQ.out.alloc hbs _).alloc (by simp; omega) _).trans HN.out.2⟩
          case measure => simp [intOf]; omega
        · obtain rfl : j = l.length := by omega
          go_wp2
          go_roundw
          case rel => exact ⟨k + 1, by omega, by go_num, by rw [HPE.out]; exact HR, hbq⟩
          case measure => simp [intOf]; omega
    · obtain rfl : k = 2 := by omega
      have hE : endP a b 2 = endAll a b := rfl
      rw [hE] at HO
      rw [hE] at hA5
      rw [hE]
      have hla := endK_len a a.length
      have hlb := endK_len b b.length
      have hll : (endAll a b).length ≤ 16000 := by have := HLA.out; unfold endAll; simp only [List.length_append]; omega
      have hcut : cutsOf a b = Lib.compact ((endAll a b).mergeSort fun x y => decide (x ≤ y)) := rfl
      have HCT := hd hcut
      generalize cutsOf a b = C at *
      generalize endAll a b = E at *
      clear hE hla hlb hcut
      by_cases h0 : E.length = 0
      · obtain rfl : E = [] := List.length_eq_zero_iff.1 h0
        have hC : C = [] := by rw [HCT.out, List.mergeSort_nil]; rfl
        subst hC
        go_wp2_with (first | (go_at_call 152; refine (Tryz.slices_Sort_int_none _ _ _).mono ?_; rintro e w' ⟨rfl, rfl⟩) | (go_at_call 153; refine (Tryz.slices_Compact_int_empty _ _ _).mono ?_; rintro e w' ⟨rfl, rfl⟩))
        go_ret
        exact ⟨_, rfl, HO.out, hbw⟩
      · obtain ⟨g, rfl⟩ := hA5 (by omega)
        have hHO := HO.out
        rcases hHO.2 with ⟨hv, _⟩ | ⟨g', cap', cur, hv, h1, h2, h3, h4, h5, h6⟩
        · cases hv
        cases hv
        obtain ⟨S, hS⟩ : ∃ S, S = E.mergeSort fun x y => decide (x ≤ y) := ⟨_, rfl⟩
        have hSl : S.length = E.length := by rw [hS, List.length_mergeSort]
        have hH := holds_of_blockI (ss := E) h2 (by simpa using h6)
        have K1 := hd (Tryz.slices_Sort_int g 0 c5 E wr hH (hHO.lt g rfl).2 (by omega))
        rw [← hS] at HCT K1
        have HBS := hd (fun (n : Nat) (os : Array Obj) => And.intro (ownsRow_sortedI (n := n) (os := os) hSl h1 h2 h3 h4 h5) (gb_below (grownBy_sortedI (w := wr) (g := g) (n := n) (os := os) S.toArray) hbw.size (fun k hk => by cases hk; exact h1)))
        have HBW := hd hbw
        clear h1 h2 h3 h4 h5 h6 hH hHO hS hbw
        go_wp2_with fail
        refine K1.out.mono ?_
        rintro e w1 ⟨rfl, n1, os1, rfl⟩
        obtain ⟨ho1, hb1⟩ := HBS.out n1 os1
        generalize grow (putRow (Value.int .i64) (Sort.ahead wr n1) g 0 S.toArray) os1 = w1 at ho1 hb1 ⊢
        rcases ho1.2 with ⟨hv, _⟩ | ⟨g', cap', cur, hv, h1, h2, h3, h4, h5, h6⟩
        · cases hv
        cases hv
        have hH := holds_of_blockI (ss := S) h2 (by rw [hSl]; simpa using h6)
        have K2 := hd (Tryz.slices_Compact_int g 0 c5 S w1 hH (by omega) (by omega))
        have hcl := cmp_len S
        have HBT := hd (fun (q : Nat) => by
          have hT : (Lib.compact S ++ List.replicate (S.length - (Lib.compact S).length) 0).length = S.length := by simp; omega
          have o := ownsRow_sortedI (n := q) (os := #[]) (base := w.heap.size) hT h1 h2 (show S.length ≤ c5 by omega) h4 h5
          have b := gb_below (grownBy_sortedI (w := w1) (g := g) (n := q) (os := #[]) (Lib.compact S ++ List.replicate (S.length - (Lib.compact S).length) 0).toArray) (Nat.le_trans HBW.out.size hb1.size) (fun k hk => by cases hk; exact h1)
          rw [grow_nil] at o b
          have o2 := own_pre (m := (Lib.compact S).length) (ys := (Lib.compact S).map (Value.int .i64)) o hcl (by rw [List.map_append, List.take_append_of_le_length (by rw [List.length_map]; exact Nat.le_refl _), List.take_of_length_le (by rw [List.length_map]; exact Nat.le_refl _)])
          exact And.intro o2 b)
        rw [hSl] at K2 HBT
        have HB1 := hd (HBW.out.trans hb1)
        clear h1 h2 h3 h4 h5 h6 hH ho1 hb1 K1 HBS
        go_wp2_with fail
        refine K2.out.mono ?_
        rintro e w2 ⟨rfl, q, rfl⟩
        have HX := hd (HBT.out q)
        generalize putRow (Value.int .i64) (Sort.ahead w1 q) g 0 (Lib.compact S ++ List.replicate (E.length - (Lib.compact S).length) 0).toArray = w2 at HX ⊢
        clear HBT K2
        go_wp2
        go_ret
        refine ⟨_, rfl, ?_, HB1.out.trans HX.out.2⟩
        rw [HCT.out]
        exact HX.out.1

end Go.Proofs.YtnncmaegmlaabaaGreatDoor

namespace Go.Proofs.YtnncmaegmlaabaaGreatDoor
open Go.RowKit Go.Shelf

theorem cuts_len (a b : List (Int × Int)) : (cutsOf a b).length ≤ 2 * a.length + 2 * b.length := by
  have h1 := cmp_len ((endAll a b).mergeSort fun x y => decide (x ≤ y))
  rw [List.length_mergeSort] at h1
  have h2 := endK_len a a.length
  have h3 := endK_len b b.length
  have h4 : (endAll a b).length = (endK a a.length).length + (endK b b.length).length := by unfold endAll; rw [List.length_append]
  unfold cutsOf
  omega

/-- What a choice gives of two lists. -/
def choice (kp : Bool → Bool → Bool) (a b : List (Int × Int)) : List (Int × Int) := combK a b kp (cutsOf a b) ((cutsOf a b).length - 1)

/-- What Join, Meet and Minus hand back. -/
def Chosen (kp : Bool → Bool → Bool) (a b : List (Int × Int)) (w : World) (e : Ending) (w' : World) : Prop :=
  if 2048 < (choice kp a b).length then e = .returned (.tuple #[.slice none 0 0, .int .i64 5]) ∧ Below w.heap.size w w'
  else ∃ v, e = .returned (.tuple #[v, .int .i64 0]) ∧ w'.ownsRow w.heap.size 63 2 v (choice kp a b).length (spc (choice kp a b)) ∧ Below w.heap.size w w'

theorem combine_all (g : Nat) (kp : Bool → Bool → Bool) (hg : Keeps2 g kp) (sa sb : Value) (a b : List (Int × Int)) (w : World) (ha : Rd w w.heap.size sa a.length (spc a)) (hb : Rd w w.heap.size sb b.length (spc b)) (h0a : chkSpans a = 0) (h0b : chkSpans b = 0) :
    Calls Tryz.prog 80 #[sa, sb, .func (.func g) #[] #[]] w (Chosen kp a b w) := by
  have hla := (chkSpans_ok a h0a).1
  have hlb := (chkSpans_ok b h0b).1
  have hcl := cuts_len a b
  exact combine_any g kp hg sa sb a b (cutsOf a b) w ha hb h0a h0b (fun W sl hB hs => ends_any sl sa sb a b W hs ((ha.below hB (Nat.le_refl _)).mono hB.size) ((hb.below hB (Nat.le_refl _)).mono hB.size) (by omega) (by omega)) (by omega)

theorem Chosen.cases {kp : Bool → Bool → Bool} {a b : List (Int × Int)} {w : World} {e : Ending} {w' : World} (h : Chosen kp a b w e w') : ∃ v x, e = .returned (.tuple #[v, .int .i64 x]) ∧ Hid (Chosen kp a b w e w') := by
  unfold Chosen at h
  split at h
  · rename_i h2
    exact ⟨_, _, h.1, hd (by unfold Chosen; rw [if_pos h2]; exact h)⟩
  · rename_i h2
    obtain ⟨v, h3, h4⟩ := h
    exact ⟨_, _, h3, hd (by unfold Chosen; rw [if_neg h2]; exact ⟨v, h3, h4⟩)⟩

set_option maxRecDepth 100000 in
theorem join_any (sa sb : Value) (a b : List (Int × Int)) (w : World) (ha : Rd w w.heap.size sa a.length (spc a)) (hb : Rd w w.heap.size sb b.length (spc b)) (h0a : chkSpans a = 0) (h0b : chkSpans b = 0) :
    Calls Tryz.prog 28 #[sa, sb] w (Chosen (fun x y => x || y) a b w) := by
  have H := hd (combine_all 81 _ keeps_join sa sb a b w ha hb h0a h0b)
  clear ha hb h0a h0b
  go_enter Tryz.func28, Tryz.ntmps28
  go_wp2_with fail
  refine H.out.mono ?_
  intro e w1 he
  obtain ⟨v, x, rfl, HC⟩ := he.cases
  clear he
  go_wp2
  go_returns
  exact HC.out
set_option maxRecDepth 100000 in
theorem meet_any (sa sb : Value) (a b : List (Int × Int)) (w : World) (ha : Rd w w.heap.size sa a.length (spc a)) (hb : Rd w w.heap.size sb b.length (spc b)) (h0a : chkSpans a = 0) (h0b : chkSpans b = 0) :
    Calls Tryz.prog 29 #[sa, sb] w (Chosen (fun x y => x && y) a b w) := by
  have H := hd (combine_all 82 _ keeps_meet sa sb a b w ha hb h0a h0b)
  clear ha hb h0a h0b
  go_enter Tryz.func29, Tryz.ntmps29
  go_wp2_with fail
  refine H.out.mono ?_
  intro e w1 he
  obtain ⟨v, x, rfl, HC⟩ := he.cases
  clear he
  go_wp2
  go_returns
  exact HC.out
set_option maxRecDepth 100000 in
theorem minus_any (sa sb : Value) (a b : List (Int × Int)) (w : World) (ha : Rd w w.heap.size sa a.length (spc a)) (hb : Rd w w.heap.size sb b.length (spc b)) (h0a : chkSpans a = 0) (h0b : chkSpans b = 0) :
    Calls Tryz.prog 30 #[sa, sb] w (Chosen (fun x y => x && !y) a b w) := by
  have H := hd (combine_all 83 _ keeps_minus sa sb a b w ha hb h0a h0b)
  clear ha hb h0a h0b
  go_enter Tryz.func30, Tryz.ntmps30
  go_wp2_with fail
  refine H.out.mono ?_
  intro e w1 he
  obtain ⟨v, x, rfl, HC⟩ := he.cases
  clear he
  go_wp2
  go_returns
  exact HC.out

end Go.Proofs.YtnncmaegmlaabaaGreatDoor
