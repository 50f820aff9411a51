/-
  A record that is read by both, and what the statements tell of it. Conditions: written at each.
  The walk of GaugeStreams. Conditions: written at each.
-/
import Derived.Test.YtkjgofknnhngdaaGreatDoorProg
import Derived.Test.YtkjgofknnhngdaaGreatDoorS3
import Derived.Test.YtkjgofknnhngdaaGreatDoorET
import Derived.Test.YtkjgofknnhngdaaGreatDoorT0
import Derived.Test.YtkjgofknnhngdaaGreatDoorT1
import Derived.Test.YtkjgofknnhngdaaGreatDoorSB
import Derived.Test.YtkjgofknnhngdaaGreatDoorQ4
import Derived.Test.YtkjgofknnhngdaaGreatDoorQ5
import Derived.Test.YtkjgofknnhngdaaGreatDoorQS
import Derived.Test.YtkjgofknnhngdaaGreatDoorMQ
import Derived.Test.YtkjgofknnhngdaaGreatDoorS5
import Derived.Test.YtkjgofknnhngdaaGreatDoorAw
import Derived.BigQuiet
import Derived.Lib.AppendZeros

namespace Go.Proofs.YtkjgofknnhngdaaGreatDoor
open Go.RowKit
attribute [local go_sem] Oper.semAt_some

/-- The record that is read, or the empty one. -/
def DV (s : ByteArray) (w : World) (dn : ByteArray) (ds : Int) (L G : Value) : Prop :=
  (decE s = 0 ∧ dn = dNm s ∧ ds = dSt s ∧ Rd w w.heap.size L (dBs s).length (flc (dBs s)) ∧ Rd w w.heap.size G (dGs s).length (spc (dGs s))) ∨
  (decE s ≠ 0 ∧ dn = ⟨#[]⟩ ∧ ds = 0 ∧ L = .slice none 0 0 ∧ G = .slice none 0 0)
theorem DV.keep {s : ByteArray} {w w' : World} {dn : ByteArray} {ds : Int} {L G : Value} (h : DV s w dn ds L G) (hb : Below w.heap.size w w') : DV s w' dn ds L G := by
  rcases h with ⟨h0, h1, h2, h3, h4⟩ | h
  · exact .inl ⟨h0, h1, h2, (h3.below hb (Nat.le_refl _)).mono hb.size, (h4.below hb (Nat.le_refl _)).mono hb.size⟩
  · exact .inr h
theorem decd_one {s : ByteArray} {w w' : World} {e : Ending} (h : Decd s w e w') : ∃ (dn : ByteArray) (ds : Int) (A A2 : Option Addr) (n c n2 c2 : Nat),
    e = .returned (.tuple #[.agg #[.string dn, .int .i64 ds, .slice A n c, .slice A2 n2 c2], .int .i64 (decE s)]) ∧ Below w.heap.size w w' ∧ Hid (DV s w' dn ds (.slice A n c) (.slice A2 n2 c2)) := by
  rcases h with ⟨hb, ⟨h0, LV, GV, rfl, h1, h2⟩ | ⟨h0, rfl⟩⟩
  · obtain ⟨A, c, rfl, -⟩ := id h1
    obtain ⟨A2, c2, rfl, -⟩ := id h2
    exact ⟨_, _, A, A2, _, c, _, c2, by rw [h0], hb, hd (.inl ⟨h0, rfl, rfl, h1, h2⟩)⟩
  · exact ⟨_, _, none, none, 0, 0, 0, 0, rfl, hb, hd (.inr ⟨h0, rfl, rfl, rfl, rfl⟩)⟩

theorem decE_lev {s : ByteArray} (h : decE s = 0) (hs : s.size ≤ 500) : ∀ j, j < (dBs s).length → chkLev ((dBs s).getD j 0) = 0 := by
  unfold decE at h
  split at h
  · cases h
  · split at h
    · split at h
      · cases h
      · split at h
        · cases h
        · split at h
          · cases h
          · unfold bodE at h
            split at h
            · cases h
            · have hz : (dNm s).size ≤ maxLen := by
                have h1 : (dNm s).size = min (5 + bAt s 4) s.size - 5 := by simp [dNm]
                rw [h1]; unfold maxLen; omega
              exact (valid_of h hz).2.2
    · cases h

theorem told_dv (s : ByteArray) (hs : s.size ≤ 500) (dn dn' : ByteArray) (ds ds' : Int) (A A2 A3 A4 : Option Addr) (n c n2 c2 n3 c3 n4 c4 : Nat) (w : World)
    (h1 : DV s w dn ds (.slice A n c) (.slice A2 n2 c2)) (h2 : DV s w dn' ds' (.slice A3 n3 c3) (.slice A4 n4 c4)) :
    Calls Tryz.prog 13 #[.agg #[.string dn, .int .i64 ds, .slice A n c, .slice A2 n2 c2], .int .i64 (decE s), .int .i64 (decE s), .agg #[.string dn', .int .i64 ds', .slice A3 n3 c3, .slice A4 n4 c4]] w fun e w' => e = .returned (.bool true) ∧ Below w.heap.size w w' := by
  rcases h1 with ⟨h0, rfl, rfl, r1, r2⟩ | ⟨h0, rfl, rfl, e1, e2⟩
  · rcases h2 with ⟨-, rfl, rfl, r3, r4⟩ | ⟨g0, -⟩
    · rw [h0]
      exact told_ok (dNm s) (dSt s) _ _ _ _ (dBs s) (dBs s) (dGs s) (dGs s) w r1 r2 r3 r4 (sameF_yes feqL 0 _ _ rfl (fun j hj => feq_self (decE_lev h0 hs j hj))) (sameF_yes _ (0, 0) _ _ rfl (fun j hj => by simp))
    · exact absurd h0 g0
  · rw [e1, e2]
    exact told_bad (decE s) dn' ds' A3 A4 n3 c3 n4 c4 w (by simpa using h0)
end Go.Proofs.YtkjgofknnhngdaaGreatDoor

namespace Go.Proofs.YtkjgofknnhngdaaGreatDoor
open Go.RowKit
attribute [local go_sem] Oper.semAt_some

section
variable {P : Program} (w : World)
/-- append onto a row of the call's own, of a row that may be nil. -/
theorem wpList_append_optS {ops : Array Oper} {rest : List Oper} {o : Oper} {a : Act} {Q : Exit → Act → World → Prop} (hgd : o.guard = none) (s x : Operand) (t : TypeId)
    (ho : o.op = .call { callee := .builtin .append, args := #[s, x], argTypes := #[t, t] })
    (base : Nat) (e : TypeId) (i : TypeInfo) (z : Value) (size bytes : Nat) (ht : P.underlying t = some (.slice e)) (hi : P.info? e = some i) (hz : i.zero = some z)
    (hsize : i.size = size) (hby : i.bytes = bytes) (hzs : z.cells.size = size) (hsz : 0 < size)
    (v : Value) (n : Nat) (xs : List Value) (hs : a.eval s = v) (hown : w.ownsRow base e size v n xs)
    (ao : Option Addr) (m c : Nat) (news : List Value) (hx : a.eval x = .slice ao m c) (hl : news.length = m * size) (hnone : ao = none → m = 0 ∧ c = 0) (hnews : ∀ ad, ao = some ad → ∀ j u, news[j]? = some u → w.cell? (ad.add j) = some u) (h1 : ∀ u ∈ news, u.oneCell' = true)
    (h63 : n + m ≤ maxLen) (hbytes : (n + m) * bytes ≤ 140737488355328) (hbase : base ≤ w.heap.size)
    (h : ∀ v' w', w'.ownsRow base e size v' (n + m) (xs ++ news) → w.grownBy w' v.ownBlock → wpList P ops Q rest (a.put o.dst v') w') : wpList P ops Q (o :: rest) a w := by
  cases ao with
  | some ad => exact wpList_append_own w hgd s x t ho base e i z size bytes ht hi hz hsize hby hzs hsz v n xs hs hown ad m c news hx hl (hnews ad rfl) h1 h63 hbytes hbase (fun v' w' g1 g2 _ => h v' w' g1 g2)
  | none =>
    obtain ⟨rfl, rfl⟩ := hnone rfl
    have hnews' : news = [] := List.eq_nil_of_length_eq_zero (by simpa using hl)
    subst hnews'
    subst hsize
    have hr := run_append_owned_none (P := P) w base t o.type e i i.size ht hi v n xs hown
    exact Lib.wpList_append_run w hgd s x t t ho _ _ hs hx v w hr (h v w (by simpa using hown) (World.grownBy.refl _ _))
end
theorem box4s {W : World} {g : Nat} {t : TypeId} {a0 a1 a2 a3 : Value} (h : W.heap[g]? = some (.cells #[a0, a1, a2, a3] t (0, 0))) : W.cell? ⟨g, 0, none⟩ = some a0 ∧ W.cell? ⟨g, 1, none⟩ = some a1 ∧ W.cell? ⟨g, 2, none⟩ = some a2 ∧ W.cell? ⟨g, 3, none⟩ = some a3 ∧ W.frozen? ⟨g, 0, none⟩ = false ∧ W.frozen? ⟨g, 1, none⟩ = false ∧ W.frozen? ⟨g, 2, none⟩ = false ∧ W.frozen? ⟨g, 3, none⟩ = false :=
  ⟨blk_cell h 0, blk_cell h 1, blk_cell h 2, blk_cell h 3, blk_frozen h 0, blk_frozen h 1, blk_frozen h 2, blk_frozen h 3⟩
theorem rd_news {w : World} {B n c : Nat} {A : Option Addr} {xs : List Value} (h : Rd w B (.slice A n c) n xs) (hl : xs.length = n) : ∀ ad, A = some ad → ∀ j u, xs[j]? = some u → w.cell? (ad.add j) = some u := by
  rintro ad rfl j u hu
  obtain ⟨A', c', e, -, -, h3⟩ := h
  have hj : j < xs.length := (List.getElem?_eq_some_iff.1 hu).1
  obtain ⟨b, off, hb, -, hc⟩ := h3 (by omega)
  injection e with e1
  rw [← e1] at hb
  injection hb with hb
  subst hb
  have ha : (⟨b, off, none⟩ : Addr).add j = ⟨b, off + j, none⟩ := by unfold Addr.add; split <;> simp_all
  rw [ha, hc j hj, hu]
theorem full_none {A : Option Addr} {n c : Nat} (h : Full (.slice A n c)) : A = none → n = 0 ∧ c = 0 := by
  rintro rfl
  rcases h with h | ⟨_, _, _, h⟩
  · injection h with h1 h2 h3; exact ⟨h2, h3⟩
  · cases h
/-- A slice of bytes, and an error. -/
def GeS (code : ByteArray) (E : Int) (w : World) (e : Ending) (w' : World) : Prop :=
  ∃ (A : Option Addr) (n c : Nat), e = .returned (.tuple #[.slice A n c, .int .i64 E]) ∧ Below w.heap.size w w' ∧ Hid (StrOf w' (.slice A n c) code)
def ReS (code : ByteArray) (w : World) (e : Ending) (w' : World) : Prop :=
  ∃ (A : Option Addr) (n c : Nat), e = .returned (.slice A n c) ∧ Below w.heap.size w w' ∧ Hid (StrOf w' (.slice A n c) code)

set_option maxRecDepth 1000000 in
set_option maxHeartbeats 8000000 in
theorem streams_ok (HA : Hid Awake) (nm : ByteArray) (st : Int) (A A2 A3 : Option Addr) (c c2 c3 : Nat) (bs : List Nat) (gs : List (Int × Int)) (s : ByteArray) (code : ByteArray) (w : World)
    (HL : Hid (Rd w w.heap.size (.slice A bs.length c) bs.length (flc bs))) (HG : Hid (Rd w w.heap.size (.slice A2 gs.length c2) gs.length (spc gs))) (HU : Hid (Rd w w.heap.size (.slice A3 s.size c3) s.size (Lib.strCells s))) (FL : Hid (Full (.slice A bs.length c))) (FG : Hid (Full (.slice A2 gs.length c2))) (FU : Hid (Full (.slice A3 s.size c3)))
    (S1 : Hid (shortR nm.size bs.length gs.length = true)) (HN : Hid (bs.length ≤ 100000 ∧ gs.length ≤ 100000)) (hs : s.size ≤ 500)
    (CR : Hid (∀ (W : World) (lv gv : Value), Rd W W.heap.size lv bs.length (flc bs) → Rd W W.heap.size gv gs.length (spc gs) → Calls Tryz.prog 10 #[.agg #[.string nm, .int .i64 st, lv, gv]] W fun e w' => e = .returned (.int .i64 0) ∧ Below W.heap.size W w'))
    (GE : Hid (∀ (W : World) (lv gv : Value), Rd W W.heap.size lv bs.length (flc bs) → Rd W W.heap.size gv gs.length (spc gs) → Calls Tryz.prog 14 #[.agg #[.string nm, .int .i64 st, lv, gv]] W (GeS code 0 W)))
    (RE : Hid (∀ (W : World) (lv gv : Value), Rd W W.heap.size lv bs.length (flc bs) → Rd W W.heap.size gv gs.length (spc gs) → Calls Tryz.prog 16 #[.agg #[.string nm, .int .i64 st, lv, gv]] W (ReS code W)))
    (GD : Hid (∀ (W : World) (A : Option Addr) (c : Nat), Rd W W.heap.size (.slice A s.size c) s.size (Lib.strCells s) → Calls Tryz.prog 15 #[.slice A s.size c] W (Decd s W)))
    (RD : Hid (∀ (W : World) (A : Option Addr) (c : Nat), Rd W W.heap.size (.slice A s.size c) s.size (Lib.strCells s) → Calls Tryz.prog 17 #[.slice A s.size c] W (Decd s W))) :
    Calls Tryz.prog 4 #[.agg #[.string nm, .int .i64 st, .slice A bs.length c, .slice A2 gs.length c2], .slice A3 s.size c3] w fun e w' => e = .returned (.bool true) ∧ Below w.heap.size w w' := by
  obtain ⟨i0, hi, hz0, hz1, hz2⟩ := info_parts byteInfo
  have HI := hd (And.intro hi (And.intro hz0 (And.intro hz1 hz2)))
  clear hi hz0 hz1 hz2
  have hb1 := (Below.refl w.heap.size w).alloc (Nat.le_refl _) (Obj.cells #[.string nm, .int .i64 st, .slice A bs.length c, .slice A2 gs.length c2] 25)
  have HQ := hd (show (w.alloc (Obj.cells #[.string nm, .int .i64 st, .slice A bs.length c, .slice A2 gs.length c2] 25)).heap[w.heap.size]? = some (.cells #[.string nm, .int .i64 st, .slice A bs.length c, .slice A2 gs.length c2] 25 (0, 0)) from blk_new _ _ _)
  have HB := hd hb1
  have RL := hd ((HL.out.below hb1 (Nat.le_refl _)).mono hb1.size)
  have RG := hd ((HG.out.below hb1 (Nat.le_refl _)).mono hb1.size)
  have RU := hd ((HU.out.below hb1 (Nat.le_refl _)).mono hb1.size)
  have HS := hd hs
  have hlen : ¬ (500 : Int) < (s.size : Int) := by omega
  clear hb1 hs
  go_enter Tryz.func4, Tryz.ntmps4
  go_wp2_with fail
  generalize (w.alloc (Obj.cells #[.string nm, .int .i64 st, .slice A bs.length c, .slice A2 gs.length c2] 25)) = W1 at *
  refine (HA.out _).mono ?_
  rintro e za ⟨rfl, hb⟩
  replace HQ := hd ((hb.block _ (blk_lt HQ.out)).trans HQ.out)
  replace HB := hd (HB.out.trans (hb.mono HB.out.size))
  replace RL := hd ((RL.out.below hb (Nat.le_refl _)).mono hb.size)
  replace RG := hd ((RG.out.below hb (Nat.le_refl _)).mono hb.size)
  replace RU := hd ((RU.out.below hb (Nat.le_refl _)).mono hb.size)
  clear hb
  have hZ := box4s HQ.out
  obtain ⟨k0, k1, k2, k3, kf0, kf1, kf2, kf3⟩ := hZ
  go_wp2_with fail
  refine (short_any nm st A A2 bs.length c gs.length c2 _).mono ?_
  rw [S1.out]
  rintro e z0 ⟨rfl, hb⟩
  replace HQ := hd ((hb.block _ (blk_lt HQ.out)).trans HQ.out)
  replace HB := hd (HB.out.trans (hb.mono HB.out.size))
  replace RL := hd ((RL.out.below hb (Nat.le_refl _)).mono hb.size)
  replace RG := hd ((RG.out.below hb (Nat.le_refl _)).mono hb.size)
  replace RU := hd ((RU.out.below hb (Nat.le_refl _)).mono hb.size)
  clear hb
  clear k0 k1 k2 k3 kf0 kf1 kf2 kf3
  have hZ := box4s HQ.out
  obtain ⟨k0, k1, k2, k3, kf0, kf1, kf2, kf3⟩ := hZ
  go_wp2_with fail
  refine (lawRecord_any nm st _ _ bs gs _ RL.out RG.out FL.out FG.out HN.out.1 HN.out.2).mono ?_
  rintro e z1 ⟨u1, u2, rfl, hu1, hu2, -, -, hb⟩
  have U1 := hd hu1
  have U2 := hd hu2
  clear hu1 hu2
  replace HQ := hd ((hb.block _ (blk_lt HQ.out)).trans HQ.out)
  replace HB := hd (HB.out.trans (hb.mono HB.out.size))
  replace RL := hd ((RL.out.below hb (Nat.le_refl _)).mono hb.size)
  replace RG := hd ((RG.out.below hb (Nat.le_refl _)).mono hb.size)
  replace RU := hd ((RU.out.below hb (Nat.le_refl _)).mono hb.size)
  clear hb
  clear k0 k1 k2 k3 kf0 kf1 kf2 kf3
  go_wp2_with fail
  refine (GE.out _ _ _ U1.out U2.out).mono ?_
  rintro e z2 ⟨AE, nE, cE, rfl, hb, HSO⟩
  clear U1 U2
  replace HQ := hd ((hb.block _ (blk_lt HQ.out)).trans HQ.out)
  replace HB := hd (HB.out.trans (hb.mono HB.out.size))
  replace RL := hd ((RL.out.below hb (Nat.le_refl _)).mono hb.size)
  replace RG := hd ((RG.out.below hb (Nat.le_refl _)).mono hb.size)
  replace RU := hd ((RU.out.below hb (Nat.le_refl _)).mono hb.size)
  clear hb
  have HBA := hd ((Below.refl z2.heap.size z2).alloc (Nat.le_refl _) (Obj.cells #[] 5))
  have HRN := hd (rd_news (RU.out.below HBA.out (Nat.le_refl _)) (Lib.strCells_length s))
  go_wp2_with (at_builtin; refine Hid.out ?_)
  refine hd ?_
  refine wpList_append_optS _ rfl (.tmp 33) (.tmp 34) 41 rfl z2.heap.size 5 i0 (.int .u8 0) 1 1 Tryz.underlying41 HI.out.1 HI.out.2.1 HI.out.2.2.1 HI.out.2.2.2 rfl (by decide) (.slice (some ⟨z2.heap.size, 0, none⟩) 0 0) 0 [] rfl ?c0 A3 s.size c3 (Lib.strCells s) rfl ?c00 (full_none FU.out) HRN.out (one_str s) ?c3 ?c4 ?c5 ?_
  case c0 => exact World.ownsRow_lit _ #[] 0 (Nat.le_refl _) (by decide) rfl
  case c00 => rw [Lib.strCells_length]; omega
  case c3 => have := HS.out; unfold maxLen; omega
  case c4 => have := HS.out; omega
  case c5 => simp
  intro vA wA hown hgrow
  have hb : Below z2.heap.size z2 wA := HBA.out.grown hgrow (by simp) (fun k hk => by simp [Value.ownBlock] at hk; omega)
  have hrd := rd_of_own hown
  rw [Nat.zero_add, List.nil_append] at hrd
  obtain ⟨AA, cA, rfl, -⟩ := id hrd
  have RA := hd hrd
  clear hown hgrow hrd HBA HRN
  replace HQ := hd ((hb.block _ (blk_lt HQ.out)).trans HQ.out)
  replace HB := hd (HB.out.trans (hb.mono HB.out.size))
  replace RL := hd ((RL.out.below hb (Nat.le_refl _)).mono hb.size)
  replace RG := hd ((RG.out.below hb (Nat.le_refl _)).mono hb.size)
  replace RU := hd ((RU.out.below hb (Nat.le_refl _)).mono hb.size)
  replace HSO := hd (HSO.out.keep hb)
  clear hb
  go_wp2_with fail
  refine (GD.out _ _ _ RA.out).mono ?_
  rintro e z3 hde
  obtain ⟨dn, ds, AX, AY, nx, cx, ny, cy, rfl, hb, HDV⟩ := decd_one hde
  clear hde RA
  replace HQ := hd ((hb.block _ (blk_lt HQ.out)).trans HQ.out)
  replace HB := hd (HB.out.trans (hb.mono HB.out.size))
  replace RL := hd ((RL.out.below hb (Nat.le_refl _)).mono hb.size)
  replace RG := hd ((RG.out.below hb (Nat.le_refl _)).mono hb.size)
  replace RU := hd ((RU.out.below hb (Nat.le_refl _)).mono hb.size)
  replace HSO := hd (HSO.out.keep hb)
  clear hb
  have hb := (Below.refl z3.heap.size z3).alloc (Nat.le_refl _) (Obj.cells #[.string dn, .int .i64 ds, .slice AX nx cx, .slice AY ny cy] 31)
  have HX := hd (blk_new z3 #[.string dn, .int .i64 ds, .slice AX nx cx, .slice AY ny cy] 31)
  replace HQ := hd ((hb.block _ (blk_lt HQ.out)).trans HQ.out)
  replace HB := hd (HB.out.trans (hb.mono HB.out.size))
  replace RL := hd ((RL.out.below hb (Nat.le_refl _)).mono hb.size)
  replace RG := hd ((RG.out.below hb (Nat.le_refl _)).mono hb.size)
  replace RU := hd ((RU.out.below hb (Nat.le_refl _)).mono hb.size)
  replace HSO := hd (HSO.out.keep hb)
  replace HDV := hd (HDV.out.keep hb)
  clear hb
  have hZ := box4s HQ.out
  obtain ⟨k0, k1, k2, k3, kf0, kf1, kf2, kf3⟩ := hZ
  go_wp2_with fail
  generalize z3.alloc (Obj.cells #[.string dn, .int .i64 ds, .slice AX nx cx, .slice AY ny cy] 31) = W4 at *
  generalize z3.heap.size = X4 at *
  clear k0 k1 k2 k3 kf0 kf1 kf2 kf3
  refine (CR.out _ _ _ RL.out RG.out).mono ?_
  rintro e zc ⟨rfl, hb⟩
  replace HQ := hd ((hb.block _ (blk_lt HQ.out)).trans HQ.out)
  replace HX := hd ((hb.block _ (blk_lt HX.out)).trans HX.out)
  replace HB := hd (HB.out.trans (hb.mono HB.out.size))
  replace RL := hd ((RL.out.below hb (Nat.le_refl _)).mono hb.size)
  replace RG := hd ((RG.out.below hb (Nat.le_refl _)).mono hb.size)
  replace RU := hd ((RU.out.below hb (Nat.le_refl _)).mono hb.size)
  replace HSO := hd (HSO.out.keep hb)
  replace HDV := hd (HDV.out.keep hb)
  clear hb
  have hZ := box4s HQ.out
  obtain ⟨k0, k1, k2, k3, kf0, kf1, kf2, kf3⟩ := hZ
  go_wp2_with fail
  refine (RE.out _ _ _ RL.out RG.out).mono ?_
  rintro e z4 ⟨AR, nR, cR, rfl, hb, HSR⟩
  replace HQ := hd ((hb.block _ (blk_lt HQ.out)).trans HQ.out)
  replace HX := hd ((hb.block _ (blk_lt HX.out)).trans HX.out)
  replace HB := hd (HB.out.trans (hb.mono HB.out.size))
  replace RL := hd ((RL.out.below hb (Nat.le_refl _)).mono hb.size)
  replace RG := hd ((RG.out.below hb (Nat.le_refl _)).mono hb.size)
  replace RU := hd ((RU.out.below hb (Nat.le_refl _)).mono hb.size)
  replace HSO := hd (HSO.out.keep hb)
  replace HDV := hd (HDV.out.keep hb)
  clear hb
  clear k0 k1 k2 k3 kf0 kf1 kf2 kf3
  have hcv := strOf_run HSR.out
  clear HSR
  go_wp2_with fail
  refine (RD.out _ _ _ RU.out).mono ?_
  rintro e z5 hde
  clear hcv
  obtain ⟨dn', ds', AX', AY', nx', cx', ny', cy', rfl, hb, HDW⟩ := decd_one hde
  clear hde
  replace HQ := hd ((hb.block _ (blk_lt HQ.out)).trans HQ.out)
  replace HX := hd ((hb.block _ (blk_lt HX.out)).trans HX.out)
  replace HB := hd (HB.out.trans (hb.mono HB.out.size))
  replace RL := hd ((RL.out.below hb (Nat.le_refl _)).mono hb.size)
  replace RG := hd ((RG.out.below hb (Nat.le_refl _)).mono hb.size)
  replace RU := hd ((RU.out.below hb (Nat.le_refl _)).mono hb.size)
  replace HSO := hd (HSO.out.keep hb)
  replace HDV := hd (HDV.out.keep hb)
  clear hb
  have hb := (Below.refl z5.heap.size z5).alloc (Nat.le_refl _) (Obj.cells #[.string dn', .int .i64 ds', .slice AX' nx' cx', .slice AY' ny' cy'] 25)
  have HY := hd (blk_new z5 #[.string dn', .int .i64 ds', .slice AX' nx' cx', .slice AY' ny' cy'] 25)
  replace HQ := hd ((hb.block _ (blk_lt HQ.out)).trans HQ.out)
  replace HX := hd ((hb.block _ (blk_lt HX.out)).trans HX.out)
  replace HB := hd (HB.out.trans (hb.mono HB.out.size))
  replace RL := hd ((RL.out.below hb (Nat.le_refl _)).mono hb.size)
  replace RG := hd ((RG.out.below hb (Nat.le_refl _)).mono hb.size)
  replace RU := hd ((RU.out.below hb (Nat.le_refl _)).mono hb.size)
  replace HSO := hd (HSO.out.keep hb)
  replace HDV := hd (HDV.out.keep hb)
  replace HDW := hd (HDW.out.keep hb)
  clear hb
  have hZ := box4s HX.out
  obtain ⟨k0, k1, k2, k3, kf0, kf1, kf2, kf3⟩ := hZ
  have hZ := box4s HY.out
  obtain ⟨y0, y1, y2, y3, yf0, yf1, yf2, yf3⟩ := hZ
  have hcv := strOf_run HSO.out
  go_wp2_with fail
  generalize z5.alloc (Obj.cells #[.string dn', .int .i64 ds', .slice AX' nx' cx', .slice AY' ny' cy'] 25) = W9 at *
  generalize z5.heap.size = X9 at *
  clear k0 k1 k2 k3 kf0 kf1 kf2 kf3
  clear y0 y1 y2 y3 yf0 yf1 yf2 yf3
  clear hcv
  refine (told_dv s HS.out _ _ _ _ _ _ _ _ _ _ _ _ _ _ _ _ _ HDV.out HDW.out).mono ?_
  rintro e zt ⟨rfl, hb⟩
  replace HB := hd (HB.out.trans (hb.mono HB.out.size))
  clear hb
  go_wp2_with fail
  go_returns
  exact ⟨rfl, HB.out⟩

set_option maxRecDepth 1000000 in
set_option maxHeartbeats 8000000 in
theorem streams_bad (HA : Hid Awake) (nm : ByteArray) (st : Int) (A A2 A3 : Option Addr) (c c2 c3 : Nat) (bs : List Nat) (gs : List (Int × Int)) (s : ByteArray) (E : Int) (w : World)
    (HL : Hid (Rd w w.heap.size (.slice A bs.length c) bs.length (flc bs))) (HG : Hid (Rd w w.heap.size (.slice A2 gs.length c2) gs.length (spc gs))) (HU : Hid (Rd w w.heap.size (.slice A3 s.size c3) s.size (Lib.strCells s))) (FL : Hid (Full (.slice A bs.length c))) (FG : Hid (Full (.slice A2 gs.length c2))) (FU : Hid (Full (.slice A3 s.size c3)))
    (S1 : Hid (shortR nm.size bs.length gs.length = true)) (HN : Hid (bs.length ≤ 100000 ∧ gs.length ≤ 100000)) (hs : s.size ≤ 500) (hE : (E == 0) = false)
    (CR : Hid (∀ (W : World) (lv gv : Value), Rd W W.heap.size lv bs.length (flc bs) → Rd W W.heap.size gv gs.length (spc gs) → Calls Tryz.prog 10 #[.agg #[.string nm, .int .i64 st, lv, gv]] W fun e w' => e = .returned (.int .i64 E) ∧ Below W.heap.size W w'))
    (GE : Hid (∀ (W : World) (lv gv : Value), Rd W W.heap.size lv bs.length (flc bs) → Rd W W.heap.size gv gs.length (spc gs) → Calls Tryz.prog 14 #[.agg #[.string nm, .int .i64 st, lv, gv]] W (GeS ⟨#[]⟩ E W)))
    
    (GD : Hid (∀ (W : World) (A : Option Addr) (c : Nat), Rd W W.heap.size (.slice A s.size c) s.size (Lib.strCells s) → Calls Tryz.prog 15 #[.slice A s.size c] W (Decd s W)))
    (RD : Hid (∀ (W : World) (A : Option Addr) (c : Nat), Rd W W.heap.size (.slice A s.size c) s.size (Lib.strCells s) → Calls Tryz.prog 17 #[.slice A s.size c] W (Decd s W))) :
    Calls Tryz.prog 4 #[.agg #[.string nm, .int .i64 st, .slice A bs.length c, .slice A2 gs.length c2], .slice A3 s.size c3] w fun e w' => e = .returned (.bool true) ∧ Below w.heap.size w w' := by
  obtain ⟨i0, hi, hz0, hz1, hz2⟩ := info_parts byteInfo
  have HI := hd (And.intro hi (And.intro hz0 (And.intro hz1 hz2)))
  clear hi hz0 hz1 hz2
  have hb1 := (Below.refl w.heap.size w).alloc (Nat.le_refl _) (Obj.cells #[.string nm, .int .i64 st, .slice A bs.length c, .slice A2 gs.length c2] 25)
  have HQ := hd (show (w.alloc (Obj.cells #[.string nm, .int .i64 st, .slice A bs.length c, .slice A2 gs.length c2] 25)).heap[w.heap.size]? = some (.cells #[.string nm, .int .i64 st, .slice A bs.length c, .slice A2 gs.length c2] 25 (0, 0)) from blk_new _ _ _)
  have HB := hd hb1
  have RL := hd ((HL.out.below hb1 (Nat.le_refl _)).mono hb1.size)
  have RG := hd ((HG.out.below hb1 (Nat.le_refl _)).mono hb1.size)
  have RU := hd ((HU.out.below hb1 (Nat.le_refl _)).mono hb1.size)
  have HS := hd hs
  have hlen : ¬ (500 : Int) < (s.size : Int) := by omega
  clear hb1 hs
  go_enter Tryz.func4, Tryz.ntmps4
  go_wp2_with fail
  generalize (w.alloc (Obj.cells #[.string nm, .int .i64 st, .slice A bs.length c, .slice A2 gs.length c2] 25)) = W1 at *
  refine (HA.out _).mono ?_
  rintro e za ⟨rfl, hb⟩
  replace HQ := hd ((hb.block _ (blk_lt HQ.out)).trans HQ.out)
  replace HB := hd (HB.out.trans (hb.mono HB.out.size))
  replace RL := hd ((RL.out.below hb (Nat.le_refl _)).mono hb.size)
  replace RG := hd ((RG.out.below hb (Nat.le_refl _)).mono hb.size)
  replace RU := hd ((RU.out.below hb (Nat.le_refl _)).mono hb.size)
  clear hb
  have hZ := box4s HQ.out
  obtain ⟨k0, k1, k2, k3, kf0, kf1, kf2, kf3⟩ := hZ
  go_wp2_with fail
  refine (short_any nm st A A2 bs.length c gs.length c2 _).mono ?_
  rw [S1.out]
  rintro e z0 ⟨rfl, hb⟩
  replace HQ := hd ((hb.block _ (blk_lt HQ.out)).trans HQ.out)
  replace HB := hd (HB.out.trans (hb.mono HB.out.size))
  replace RL := hd ((RL.out.below hb (Nat.le_refl _)).mono hb.size)
  replace RG := hd ((RG.out.below hb (Nat.le_refl _)).mono hb.size)
  replace RU := hd ((RU.out.below hb (Nat.le_refl _)).mono hb.size)
  clear hb
  clear k0 k1 k2 k3 kf0 kf1 kf2 kf3
  have hZ := box4s HQ.out
  obtain ⟨k0, k1, k2, k3, kf0, kf1, kf2, kf3⟩ := hZ
  go_wp2_with fail
  refine (lawRecord_any nm st _ _ bs gs _ RL.out RG.out FL.out FG.out HN.out.1 HN.out.2).mono ?_
  rintro e z1 ⟨u1, u2, rfl, hu1, hu2, -, -, hb⟩
  have U1 := hd hu1
  have U2 := hd hu2
  clear hu1 hu2
  replace HQ := hd ((hb.block _ (blk_lt HQ.out)).trans HQ.out)
  replace HB := hd (HB.out.trans (hb.mono HB.out.size))
  replace RL := hd ((RL.out.below hb (Nat.le_refl _)).mono hb.size)
  replace RG := hd ((RG.out.below hb (Nat.le_refl _)).mono hb.size)
  replace RU := hd ((RU.out.below hb (Nat.le_refl _)).mono hb.size)
  clear hb
  clear k0 k1 k2 k3 kf0 kf1 kf2 kf3
  go_wp2_with fail
  refine (GE.out _ _ _ U1.out U2.out).mono ?_
  rintro e z2 ⟨AE, nE, cE, rfl, hb, HSO⟩
  clear U1 U2
  replace HQ := hd ((hb.block _ (blk_lt HQ.out)).trans HQ.out)
  replace HB := hd (HB.out.trans (hb.mono HB.out.size))
  replace RL := hd ((RL.out.below hb (Nat.le_refl _)).mono hb.size)
  replace RG := hd ((RG.out.below hb (Nat.le_refl _)).mono hb.size)
  replace RU := hd ((RU.out.below hb (Nat.le_refl _)).mono hb.size)
  clear hb
  have HBA := hd ((Below.refl z2.heap.size z2).alloc (Nat.le_refl _) (Obj.cells #[] 5))
  have HRN := hd (rd_news (RU.out.below HBA.out (Nat.le_refl _)) (Lib.strCells_length s))
  go_wp2_with (at_builtin; refine Hid.out ?_)
  refine hd ?_
  refine wpList_append_optS _ rfl (.tmp 33) (.tmp 34) 41 rfl z2.heap.size 5 i0 (.int .u8 0) 1 1 Tryz.underlying41 HI.out.1 HI.out.2.1 HI.out.2.2.1 HI.out.2.2.2 rfl (by decide) (.slice (some ⟨z2.heap.size, 0, none⟩) 0 0) 0 [] rfl ?c0 A3 s.size c3 (Lib.strCells s) rfl ?c00 (full_none FU.out) HRN.out (one_str s) ?c3 ?c4 ?c5 ?_
  case c0 => exact World.ownsRow_lit _ #[] 0 (Nat.le_refl _) (by decide) rfl
  case c00 => rw [Lib.strCells_length]; omega
  case c3 => have := HS.out; unfold maxLen; omega
  case c4 => have := HS.out; omega
  case c5 => simp
  intro vA wA hown hgrow
  have hb : Below z2.heap.size z2 wA := HBA.out.grown hgrow (by simp) (fun k hk => by simp [Value.ownBlock] at hk; omega)
  have hrd := rd_of_own hown
  rw [Nat.zero_add, List.nil_append] at hrd
  obtain ⟨AA, cA, rfl, -⟩ := id hrd
  have RA := hd hrd
  clear hown hgrow hrd HBA HRN
  replace HQ := hd ((hb.block _ (blk_lt HQ.out)).trans HQ.out)
  replace HB := hd (HB.out.trans (hb.mono HB.out.size))
  replace RL := hd ((RL.out.below hb (Nat.le_refl _)).mono hb.size)
  replace RG := hd ((RG.out.below hb (Nat.le_refl _)).mono hb.size)
  replace RU := hd ((RU.out.below hb (Nat.le_refl _)).mono hb.size)
  replace HSO := hd (HSO.out.keep hb)
  clear hb
  go_wp2_with fail
  refine (GD.out _ _ _ RA.out).mono ?_
  rintro e z3 hde
  obtain ⟨dn, ds, AX, AY, nx, cx, ny, cy, rfl, hb, HDV⟩ := decd_one hde
  clear hde RA
  replace HQ := hd ((hb.block _ (blk_lt HQ.out)).trans HQ.out)
  replace HB := hd (HB.out.trans (hb.mono HB.out.size))
  replace RL := hd ((RL.out.below hb (Nat.le_refl _)).mono hb.size)
  replace RG := hd ((RG.out.below hb (Nat.le_refl _)).mono hb.size)
  replace RU := hd ((RU.out.below hb (Nat.le_refl _)).mono hb.size)
  replace HSO := hd (HSO.out.keep hb)
  clear hb
  have hb := (Below.refl z3.heap.size z3).alloc (Nat.le_refl _) (Obj.cells #[.string dn, .int .i64 ds, .slice AX nx cx, .slice AY ny cy] 31)
  have HX := hd (blk_new z3 #[.string dn, .int .i64 ds, .slice AX nx cx, .slice AY ny cy] 31)
  replace HQ := hd ((hb.block _ (blk_lt HQ.out)).trans HQ.out)
  replace HB := hd (HB.out.trans (hb.mono HB.out.size))
  replace RL := hd ((RL.out.below hb (Nat.le_refl _)).mono hb.size)
  replace RG := hd ((RG.out.below hb (Nat.le_refl _)).mono hb.size)
  replace RU := hd ((RU.out.below hb (Nat.le_refl _)).mono hb.size)
  replace HSO := hd (HSO.out.keep hb)
  replace HDV := hd (HDV.out.keep hb)
  clear hb
  have hZ := box4s HQ.out
  obtain ⟨k0, k1, k2, k3, kf0, kf1, kf2, kf3⟩ := hZ
  go_wp2_with fail
  generalize z3.alloc (Obj.cells #[.string dn, .int .i64 ds, .slice AX nx cx, .slice AY ny cy] 31) = W4 at *
  generalize z3.heap.size = X4 at *
  clear k0 k1 k2 k3 kf0 kf1 kf2 kf3
  refine (CR.out _ _ _ RL.out RG.out).mono ?_
  rintro e zc ⟨rfl, hb⟩
  replace HQ := hd ((hb.block _ (blk_lt HQ.out)).trans HQ.out)
  replace HX := hd ((hb.block _ (blk_lt HX.out)).trans HX.out)
  replace HB := hd (HB.out.trans (hb.mono HB.out.size))
  replace RL := hd ((RL.out.below hb (Nat.le_refl _)).mono hb.size)
  replace RG := hd ((RG.out.below hb (Nat.le_refl _)).mono hb.size)
  replace RU := hd ((RU.out.below hb (Nat.le_refl _)).mono hb.size)
  replace HSO := hd (HSO.out.keep hb)
  replace HDV := hd (HDV.out.keep hb)
  clear hb
  go_wp2_with fail
  refine (RD.out _ _ _ RU.out).mono ?_
  rintro e z4 hde
  obtain ⟨dn', ds', AX', AY', nx', cx', ny', cy', rfl, hb, HDW⟩ := decd_one hde
  clear hde
  replace HQ := hd ((hb.block _ (blk_lt HQ.out)).trans HQ.out)
  replace HX := hd ((hb.block _ (blk_lt HX.out)).trans HX.out)
  replace HB := hd (HB.out.trans (hb.mono HB.out.size))
  replace RL := hd ((RL.out.below hb (Nat.le_refl _)).mono hb.size)
  replace RG := hd ((RG.out.below hb (Nat.le_refl _)).mono hb.size)
  replace RU := hd ((RU.out.below hb (Nat.le_refl _)).mono hb.size)
  replace HSO := hd (HSO.out.keep hb)
  replace HDV := hd (HDV.out.keep hb)
  clear hb
  have hb := (Below.refl z4.heap.size z4).alloc (Nat.le_refl _) (Obj.cells #[.string dn', .int .i64 ds', .slice AX' nx' cx', .slice AY' ny' cy'] 25)
  have HY := hd (blk_new z4 #[.string dn', .int .i64 ds', .slice AX' nx' cx', .slice AY' ny' cy'] 25)
  replace HQ := hd ((hb.block _ (blk_lt HQ.out)).trans HQ.out)
  replace HX := hd ((hb.block _ (blk_lt HX.out)).trans HX.out)
  replace HB := hd (HB.out.trans (hb.mono HB.out.size))
  replace RL := hd ((RL.out.below hb (Nat.le_refl _)).mono hb.size)
  replace RG := hd ((RG.out.below hb (Nat.le_refl _)).mono hb.size)
  replace RU := hd ((RU.out.below hb (Nat.le_refl _)).mono hb.size)
  replace HSO := hd (HSO.out.keep hb)
  replace HDV := hd (HDV.out.keep hb)
  replace HDW := hd (HDW.out.keep hb)
  clear hb
  have hZ := box4s HX.out
  obtain ⟨k0, k1, k2, k3, kf0, kf1, kf2, kf3⟩ := hZ
  have hZ := box4s HY.out
  obtain ⟨y0, y1, y2, y3, yf0, yf1, yf2, yf3⟩ := hZ
  have hcv := strOf_run HSO.out
  go_wp2_with fail
  generalize z4.alloc (Obj.cells #[.string dn', .int .i64 ds', .slice AX' nx' cx', .slice AY' ny' cy'] 25) = W9 at *
  generalize z4.heap.size = X9 at *
  clear k0 k1 k2 k3 kf0 kf1 kf2 kf3
  clear y0 y1 y2 y3 yf0 yf1 yf2 yf3
  clear hcv
  refine (told_dv s HS.out _ _ _ _ _ _ _ _ _ _ _ _ _ _ _ _ _ HDV.out HDW.out).mono ?_
  rintro e zt ⟨rfl, hb⟩
  replace HB := hd (HB.out.trans (hb.mono HB.out.size))
  clear hb
  go_wp2_with fail
  go_returns
  exact ⟨rfl, HB.out⟩
end Go.Proofs.YtkjgofknnhngdaaGreatDoor
