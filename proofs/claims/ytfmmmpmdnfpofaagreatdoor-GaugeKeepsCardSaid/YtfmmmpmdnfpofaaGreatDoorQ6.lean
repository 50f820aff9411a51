/-
  Rows of a call's own are apart from others; the cells of a block that is new. No program.
  The statements' rules: a copy of its own. Condition: at most 100000 rules.
-/
import Derived.Test.YtfmmmpmdnfpofaaGreatDoorProg
import Derived.Test.YtfmmmpmdnfpofaaGreatDoorMI
import Derived.Test.YtfmmmpmdnfpofaaGreatDoorMD
import Derived.Test.YtfmmmpmdnfpofaaGreatDoorQ5
import Derived.Test.YtfmmmpmdnfpofaaGreatDoorME

namespace Go.Proofs.YtfmmmpmdnfpofaaGreatDoor
open Go.RowKit

theorem own_ne {W : World} {B1 B2 : Nat} {e1 e2 : TypeId} {s1 s2 : Nat} {v1 v2 : Value} {n1 n2 : Nat} {xs1 xs2 : List Value} (h1 : W.ownsRow B1 e1 s1 v1 n1 xs1) (h2 : W.ownsRow B2 e2 s2 v2 n2 xs2) (he : e1 ≠ e2) : v1.ownBlock = none ∨ v1.ownBlock ≠ v2.ownBlock := by
  rcases h1.2 with ⟨rfl, _⟩ | ⟨g, cap, cur, rfl, _, hg, _⟩
  · exact .inl rfl
  · exact .inr fun h => blk_not_row hg he h2 (by simpa [Value.ownBlock] using h)
theorem cells_new (W : World) (cs : Array Value) (T : TypeId) (xs : List Value) (hx : cs.toList = xs) : ∀ j u, xs[j]? = some u → (W.alloc (.cells cs T)).cell? ((⟨W.heap.size, 0, none⟩ : Addr).add j) = some u := by
  subst hx
  intro j u hu
  have e : (⟨W.heap.size, 0, none⟩ : Addr).add j = ⟨W.heap.size, j, none⟩ := by unfold Addr.add; split <;> simp_all
  rw [e, World.cell?_alloc_new]
  simpa using hu
end Go.Proofs.YtfmmmpmdnfpofaaGreatDoor

namespace Go.Proofs.YtfmmmpmdnfpofaaGreatDoor
open Go.RowKit
attribute [local go_sem] Oper.semAt_some

theorem ruleInfo : (Tryz.prog.info? 76).map (fun i => (i.zero, i.size, i.bytes)) = some (some (.agg #[.string ⟨#[]⟩, .int .i64 0, .int .i64 0]), 3, 32) := by kernel_rfl
def OwnsRu (base : Nat) (l : List Ru) (w : World) (e : Ending) (w' : World) : Prop :=
  ∃ v, e = .returned v ∧ w'.ownsRow base 76 3 v l.length (ruc l) ∧ Below base w w'
theorem ruc_take (l : List Ru) (k : Nat) (hk : k < l.length) : ruc (l.take (k + 1)) = ruc (l.take k) ++ [.string (l.getD k ru0).1, .int .i64 (l.getD k ru0).2.1, .int .i64 (l.getD k ru0).2.2] := by
  rw [List.take_succ_eq_append_getElem hk]
  have e : l[k] = l.getD k ru0 := by simp [hk]
  simp only [ruc, List.flatMap_append, e]
  simp

set_option maxRecDepth 1000000 in
set_option maxHeartbeats 4000000 in
theorem lawRules_any (sl : Value) (l : List Ru) (w : World) (h : Rd w w.heap.size sl l.length (ruc l)) (hn : l.length ≤ 100000) :
    Calls Tryz.prog 12 #[sl] w (OwnsRu w.heap.size l w) := by
  obtain ⟨j0, hj, hy0, hy1, hy2⟩ := info_parts ruleInfo
  obtain ⟨A, c, rfl, hc1, hc2, hc⟩ := h
  unfold maxLen at hc2
  have HC := hd hc
  have HJ := hd (And.intro hj (And.intro hy0 (And.intro hy1 hy2)))
  clear hc hj hy0 hy1 hy2
  go_enter Tryz.func12, Tryz.ntmps12
  go_wp2
  go_loopw [3, 8] (fun o i wr => ∃ k : Nat, k ≤ l.length ∧ i = .int .i64 k ∧ Hid (wr.ownsRow w.heap.size 76 3 o k (ruc (l.take k))) ∧ Below w.heap.size w wr) (fun _ i _ => l.length - (intOf i).toNat)
  case atStart => exact ⟨0, Nat.zero_le _, rfl, hd (World.ownsRow_nil _ _ _ _), Below.refl _ _⟩
  case round =>
    obtain ⟨k, hk, rfl, HO, hb⟩ := hrel
    obtain ⟨A5, c5, hv5, -⟩ := own_form HO.out
    subst hv5
    by_cases hlt : k < l.length
    · obtain ⟨b, off, rfl, hbb, hcell⟩ := HC.out (by omega)
      obtain ⟨q0, q1, q2⟩ := ruc_getD l k hlt
      have hs0 := (hb.cell (p := ⟨b, _, none⟩) hbb).trans ((hcell (k * 3) (by rw [ruc_len]; omega)).trans q0)
      have hs1 := (hb.cell (p := ⟨b, _, none⟩) hbb).trans ((hcell (k * 3 + 1) (by rw [ruc_len]; omega)).trans q1)
      have hs2 := (hb.cell (p := ⟨b, _, none⟩) hbb).trans ((hcell (k * 3 + 2) (by rw [ruc_len]; omega)).trans q2)
      rw [← Nat.add_assoc] at hs1 hs2
      have HTK := hd (ruc_take l k hlt)
      have HW := hd hb
      clear hcell q0 q1 q2 hb
      generalize (l.getD k ru0).1 = kd at *
      generalize (l.getD k ru0).2.1 = A at *
      generalize (l.getD k ru0).2.2 = B at *
      have HB1 := hd ((Below.refl w.heap.size wr).alloc HW.out.size (.cells #[.string kd, .int .i64 A, .int .i64 B] 47))
      have HCN := hd (show ∀ j u, ([.string kd, .int .i64 A, .int .i64 B] : List Value)[j]? = some u → ((wr.alloc (.cells #[.string kd, .int .i64 A, .int .i64 B] 47)).alloc (.cells #[.string kd, .int .i64 A, .int .i64 B] 76)).cell? ((⟨wr.heap.size + 1, 0, none⟩ : Addr).add j) = some u from by
        have := cells_new (wr.alloc (.cells #[.string kd, .int .i64 A, .int .i64 B] 47)) #[.string kd, .int .i64 A, .int .i64 B] 76 [.string kd, .int .i64 A, .int .i64 B] rfl
        rwa [World.size_alloc] at this)
      have HWN := hd ((HW.out.alloc HW.out.size (.cells #[.string kd, .int .i64 A, .int .i64 B] 47)).alloc (by have := HW.out.size; simp; omega) (.cells #[.string kd, .int .i64 A, .int .i64 B] 76))
      have HRN := hd ((HO.out.alloc (.cells #[.string kd, .int .i64 A, .int .i64 B] 47)).alloc (.cells #[.string kd, .int .i64 A, .int .i64 B] 76))
      have HNB := hd (show k + 1 ≤ maxLen ∧ (k + 1) * 32 ≤ 140737488355328 by unfold maxLen; omega)
      go_wp2_with (at_builtin; refine wpList_append_own _ rfl (.tmp 12) (.tmp 14) 37 rfl w.heap.size 76 j0 (.agg #[.string ⟨#[]⟩, .int .i64 0, .int .i64 0]) 3 32 Tryz.underlying37 HJ.out.1 HJ.out.2.1 HJ.out.2.2.1 HJ.out.2.2.2 rfl (by decide) _ k _ rfl HRN.out ⟨wr.heap.size + 1, 0, none⟩ 1 1 [.string kd, .int .i64 A, .int .i64 B] rfl rfl HCN.out (by simp [Value.oneCell']) HNB.out.1 HNB.out.2 HWN.out.size ?_)
      intro v7 w7 hown7 hg7 _
      have H1 := hd (show w7.ownsRow w.heap.size 76 3 v7 (k + 1) (ruc (l.take (k + 1))) by rw [HTK.out]; exact hown7)
      have H3 := hd (HWN.out.trans (gb_below hg7 HWN.out.size (fun kk hk => (HRN.out.lt kk hk).1)))
      clear hown7 hg7 HTK HCN HWN HRN HW
      go_wp2
      go_roundw
      case rel => exact ⟨k + 1, by omega, by go_num, H1, H3.out⟩
      case measure => simp [intOf]; omega
    · have hke : k = l.length := by omega
      subst hke
      have HO9 := hd (show wr.ownsRow w.heap.size 76 3 (.slice A5 l.length c5) l.length (ruc l) from by have := HO.out; rwa [List.take_length] at this)
      have HW := hd hb
      clear hb HO
      go_wp2
      go_returns
      exact ⟨_, rfl, HO9.out, HW.out⟩
end Go.Proofs.YtfmmmpmdnfpofaaGreatDoor
