/-
  What the statements' example gives, by plain words and by the kernel.
  The contracts that the statements' example calls, at its values.
  The contracts that the theorems' first example calls, at its values.
  The first example of the theorems of the whole: the program gives what the document says. No condition.
  Contract of the reference's Short: every record.
  Contracts of the reference's CheckAppend and Append, at valid records.
-/
import Derived.Test.YtkgkpcmokmhakaaGreatDoorProg
import Derived.Test.YtkgkpcmokmhakaaGreatDoorF0
import Derived.Test.YtkgkpcmokmhakaaGreatDoorMN
import Derived.Test.YtkgkpcmokmhakaaGreatDoorMK
import Derived.Test.YtkgkpcmokmhakaaGreatDoorMQ
import Derived.Test.YtkgkpcmokmhakaaGreatDoorMO
import Derived.Test.YtkgkpcmokmhakaaGreatDoorShelfB
import Derived.Test.YtkgkpcmokmhakaaGreatDoorMI
import Derived.Test.YtkgkpcmokmhakaaGreatDoorME
import Derived.Test.YtkgkpcmokmhakaaGreatDoorMR
import Derived.Test.YtkgkpcmokmhakaaGreatDoorT7
import Derived.Test.YtkgkpcmokmhakaaGreatDoorQ4
import Derived.Test.YtkgkpcmokmhakaaGreatDoorKB
import Derived.Test.YtkgkpcmokmhakaaGreatDoorET

namespace Go.Proofs.YtkgkpcmokmhakaaGreatDoor
open Go.RowKit Go.Shelf

def exA : List (Int × Int) := [(0, 4), (6, 9)]
def exB : List (Int × Int) := [(2, 7)]
def exL (g : Nat) : List Nat := match g with
  | 0 => [1065353216, 1073741824, 1077936128]
  | 1 => [1065353216, 1082130432, 0]
  | _ => [1077936128, 1077936128, 0]
end Go.Proofs.YtkgkpcmokmhakaaGreatDoor

namespace Go.Proofs.YtkgkpcmokmhakaaGreatDoor
open Go.RowKit Go.Shelf

theorem Rd.up {w w' : World} {n : Nat} {v : Value} {xs : List Value} (h : Rd w w.heap.size v n xs) (hb : Below w.heap.size w w') : Rd w' w'.heap.size v n xs := (h.below hb (Nat.le_refl _)).mono hb.size

def Yes (w : World) (e : Ending) (w' : World) : Prop := e = .returned (.bool true) ∧ Below w.heap.size w w'

theorem spans_yes (l : List (Int × Int)) (s1 s2 : Value) (w : World) (h1 : Rd w w.heap.size s1 l.length (spc l)) (h2 : Rd w w.heap.size s2 l.length (spc l)) : Calls Tryz.prog 30 #[s1, s2] w (Yes w) := by
  refine (sameSpans_any s1 s2 l l w h1 h2).mono ?_
  rintro e w' ⟨rfl, hb⟩
  rw [show sameF (fun x y : Int × Int => x == y) (0, 0) l l = true from sameF_yes _ _ _ _ rfl (fun j _ => by simp)]
  exact ⟨rfl, hb⟩
section
variable (sa sb : Value) (w : World) (ha : Rd w w.heap.size sa 2 (spc exA)) (hb : Rd w w.heap.size sb 1 (spc exB))
include ha hb
end
section
variable (lv gv : Value) (w : World) (hl : Rd w w.heap.size lv 7 (flc hkL)) (hg : Rd w w.heap.size gv 1 (spc hkG))
include hl hg
end

def fn3 (a b c : Value) (g : Nat) : Value := match g with
  | 0 => a
  | 1 => b
  | _ => c
abbrev Blk (w : World) (a : Nat) (cs : Array Value) (t : TypeId) : Prop := w.heap[a]? = some (.cells cs t (0, 0))
theorem Blk.up {w w' : World} {a : Nat} {cs : Array Value} {t : TypeId} (h : Blk w a cs t) (hb : Below w.heap.size w w') : Blk w' a cs t := (hb.block _ (blk_lt h)).trans h
theorem Blk.new (w : World) (cs : Array Value) (t : TypeId) : Blk (w.alloc (.cells cs t)) w.heap.size cs t := blk_new w cs t
end Go.Proofs.YtkgkpcmokmhakaaGreatDoor

namespace Go.Proofs.YtkgkpcmokmhakaaGreatDoor
open Go.RowKit Go.Shelf

abbrev qN : ByteArray := ⟨#[113, 117, 97, 121]⟩
def qL : List Nat := [1065353216, 1091567616, 1073741824]
def qC : List Nat := [1065353216, 0, 1073741824]
def qF : List Nat := [1065353216, 1065353216, 1073741824]
def qR : List Ru := [(sJump, 32, 0)]
theorem qR_ok : chkRules qR = 0 := by decide +kernel
theorem qL_ok : Valid qN 3 qL [] := (valid_of (by decide +kernel) (by decide)).1
theorem qC_ok : Valid qN 3 qC [(1, 2)] := (valid_of (by decide +kernel) (by decide)).1
theorem qF_ok : Valid qN 3 qF [] := (valid_of (by decide +kernel) (by decide)).1
theorem q_lev : (apF qL [] qR qR.length).1 = qC := by decide +kernel
theorem q_gap : (apF qL [] qR qR.length).2.1 = [(1, 2)] := by decide +kernel
theorem q_flev : (fillF qC [(1, 2)] 1 [((1 : Int), (2 : Int))].length).lev = qF := by decide +kernel
theorem q_fgap : (fillF qC [(1, 2)] 1 [((1 : Int), (2 : Int))].length).gap = [] := by decide +kernel
theorem q_ffil : (fillF qC [(1, 2)] 1 [((1 : Int), (2 : Int))].length).fil = [(1, 2)] := by decide +kernel
def qM (g : Nat) : List Nat := match g with
  | 0 => qL
  | _ => qF
def qG (_ : Nat) : List (Int × Int) := []
theorem q_vlev : asmK (vLev (balF qM qG 3) 16 (qM 0).length (qM 0).length) (vMrk (balF qM qG 3) 16 (qM 0).length (qM 0).length) (qM 0).length = qF := by decide +kernel
theorem q_vgap : strF (misK (vMrk (balF qM qG 3) 16 (qM 0).length (qM 0).length) (qM 0).length (qM 0).length) (qM 0).length = [] := by decide +kernel
theorem q_v0 : vCnt (balF qM qG 3) 16 0 (qM 0).length = 1 := by decide +kernel
theorem q_v1 : vCnt (balF qM qG 3) 16 1 (qM 0).length = 0 := by decide +kernel
theorem q_v2 : vCnt (balF qM qG 3) 16 2 (qM 0).length = 0 := by decide +kernel
theorem q_clean_any (lv gv rv : Value) (w : World) (hl : Rd w w.heap.size lv 3 (flc qL)) (hg : Rd w w.heap.size gv 0 (spc [])) (hr : Rd w w.heap.size rv 1 (ruc qR)) : Calls Tryz.prog 8 #[.agg #[.string qN, .int .i64 3, lv, gv], rv] w fun e w' => ∃ A c A' c', e = .returned (.tuple #[.agg #[.string qN, .int .i64 3, .slice A 3 c, .slice A' 1 c'], .int .i64 0]) ∧ Rd w' w'.heap.size (.slice A 3 c) 3 (flc qC) ∧ Rd w' w'.heap.size (.slice A' 1 c') 1 (spc [(1, 2)]) ∧ Below w.heap.size w w' := by
  refine (clean_ok qN 3 lv gv rv qL [] qR w hl hg hr qL_ok qR_ok).mono ?_
  rintro e w' ⟨lv', gv', rfl, h0, h1, h2⟩
  rw [q_lev] at h0
  rw [q_gap] at h1
  obtain ⟨A, c, rfl, -⟩ := own_form h0
  obtain ⟨A', c', rfl, -⟩ := own_form h1
  exact ⟨A, c, A', c', rfl, rd_of_own h0, rd_of_own h1, h2⟩
theorem q_fill_any (lv gv : Value) (w : World) (hl : Rd w w.heap.size lv 3 (flc qC)) (hg : Rd w w.heap.size gv 1 (spc [(1, 2)])) : Calls Tryz.prog 28 #[.agg #[.string qN, .int .i64 3, lv, gv], .int .i64 1] w fun e w' => ∃ A c A' c' A2 c2, e = .returned (.tuple #[.agg #[.string qN, .int .i64 3, .slice A 3 c, .slice A' 0 c'], .slice A2 1 c2, .int .i64 0]) ∧ Rd w' w'.heap.size (.slice A 3 c) 3 (flc qF) ∧ Rd w' w'.heap.size (.slice A' 0 c') 0 (spc []) ∧ Rd w' w'.heap.size (.slice A2 1 c2) 1 (spc [(1, 2)]) ∧ Below w.heap.size w w' := by
  refine (fill_any qN 3 lv gv qC [(1, 2)] 1 w hl hg qC_ok (by decide)).mono ?_
  rintro e w' ⟨lv', gv', sv, rfl, h0, h1, h2, h3⟩
  rw [q_flev] at h0
  rw [q_fgap] at h1
  rw [q_ffil] at h2
  obtain ⟨A, c, rfl, -⟩ := own_form h0
  obtain ⟨A', c', rfl, -⟩ := own_form h1
  obtain ⟨A2, c2, rfl, -⟩ := own_form h2
  exact ⟨A, c, A', c', A2, c2, rfl, rd_of_own h0, rd_of_own h1, rd_of_own h2, h3⟩
theorem q_vals (g : Nat) : Valid qN 3 (qM g) (qG g) := by
  match g with
  | 0 => exact qL_ok
  | _ + 1 => exact qF_ok
theorem q_vote_any (a b ga gb : Value) (w : World) (ha : Rd w w.heap.size a 3 (flc qL)) (hb : Rd w w.heap.size b 3 (flc qF)) (hga : Rd w w.heap.size ga 0 (spc [])) (hgb : Rd w w.heap.size gb 0 (spc [])) :
    Calls Tryz.prog 29 #[.agg #[.string qN, .int .i64 3, a, ga, .string qN, .int .i64 3, b, gb, .string qN, .int .i64 3, b, gb], .int .i64 16] w fun e w' => ∃ A p A' q, e = .returned (.tuple #[.agg #[.string qN, .int .i64 3, .slice A 3 p, .slice A' 0 q], .agg #[.int .i64 1, .int .i64 0, .int .i64 0], .int .i64 0]) ∧ Rd w' w'.heap.size (.slice A 3 p) 3 (flc qF) ∧ Below w.heap.size w w' := by
  refine (vote_any (fun _ => qN) (fun _ => 3) (fn3 a b b) (fn3 ga gb gb) qM qG 16 w ?_ ?_ (fun g _ => q_vals g) ?_ (fun _ _ => rfl) (by decide)).mono ?_
  · intro k hk
    rcases (show k = 0 ∨ k = 1 ∨ k = 2 by omega) with rfl | rfl | rfl
    · exact ha
    · exact hb
    · exact hb
  · intro k hk
    rcases (show k = 0 ∨ k = 1 ∨ k = 2 by omega) with rfl | rfl | rfl
    · exact hga
    · exact hgb
    · exact hgb
  · intro k hk
    rcases (show k = 0 ∨ k = 1 ∨ k = 2 by omega) with rfl | rfl | rfl <;> rfl
  · rintro e w' ⟨lv', gv', rfl, h1, h2, h3⟩
    rw [q_vlev] at h1
    rw [q_vgap] at h2
    rw [q_v0, q_v1, q_v2]
    obtain ⟨A, p, rfl, -⟩ := own_form h1
    obtain ⟨A', q, rfl, -⟩ := own_form h2
    exact ⟨A, p, A', q, rfl, rd_of_own h1, h3⟩
def itaQ (n : Int) : ByteArray := if n = 3 then ⟨#[51]⟩ else if n = 16 then ⟨#[49, 54]⟩ else if n = 32 then ⟨#[51, 50]⟩ else ⟨#[]⟩
theorem itaQ_of (i : Nat) (s : List UInt8) (hi : i < 100) (hs : Lib.decDigits i = s) (he : itaQ (i : Int) = ⟨s.toArray⟩) (hl : s.length ≤ 32) : ItaOf itaQ (i : Int) := by
  refine ⟨by rw [he]; simpa [ByteArray.size] using hl, fun W => (Tryz.strconv_Itoa_small i hi W).mono ?_⟩
  rintro e w' ⟨rfl, rfl⟩
  rw [hs, ← he]
  exact ⟨rfl, Below.refl _ _⟩
theorem itaQ3 : ItaOf itaQ 3 := itaQ_of 3 [51] (by decide) (by simp [Lib.decDigits]) rfl (by decide)
theorem itaQ16 : ItaOf itaQ 16 := itaQ_of 16 [49, 54] (by decide) (by simp [Lib.decDigits]) rfl (by decide)
theorem itaQ32 : ItaOf itaQ 32 := itaQ_of 32 [51, 50] (by decide) (by simp [Lib.decDigits]) rfl (by decide)
abbrev qText : ByteArray := ⟨#[103, 97, 117, 103, 101, 32, 113, 117, 97, 121, 32, 51, 10, 49, 54, 10, 45, 10, 51, 50, 10]⟩
theorem q_text : (⟨(textP itaQ qN 3 (knL [(1, 2)] qC.length) qC qC.length).toArray⟩ : ByteArray) = qText := by kernel_rfl
theorem q_print_any (lv gv : Value) (w : World) (hl : Rd w w.heap.size lv 3 (flc qC)) (hg : Rd w w.heap.size gv 1 (spc [(1, 2)])) : Calls Tryz.prog 14 #[.agg #[.string qN, .int .i64 3, lv, gv]] w fun e w' => e = .returned (.tuple #[.string qText, .int .i64 0]) ∧ Below w.heap.size w w' := by
  refine (print_any itaQ qN 3 lv gv qC [(1, 2)] w hl hg qC_ok itaQ3 ?_).mono ?_
  · intro j hj hk
    have : j = 0 ∨ j = 1 ∨ j = 2 := by simp [qC] at hj; omega
    rcases this with rfl | rfl | rfl
    · rw [show s16 (qC.getD 0 0) = 16 by decide +kernel]; exact itaQ16
    · exact absurd hk (by decide +kernel)
    · rw [show s16 (qC.getD 2 0) = 32 by decide +kernel]; exact itaQ32
  · rintro e w' ⟨rfl, h⟩
    rw [q_text]
    exact ⟨rfl, h⟩
theorem qF_same : sameF feqL 0 qF qF = true := by decide +kernel
theorem qF_yes (s1 s2 : Value) (w : World) (h1 : Rd w w.heap.size s1 3 (flc qF)) (h2 : Rd w w.heap.size s2 3 (flc qF)) : Calls Tryz.prog 31 #[s1, s2] w (Yes w) := by
  refine (sameLevels_any s1 s2 qF qF w h1 h2).mono ?_
  rintro e w' ⟨rfl, hb⟩
  rw [qF_same]
  exact ⟨rfl, hb⟩
theorem eq3q (w : World) : (Op.equalIn 10000 76 (.agg #[.int .i64 1, .int .i64 0, .int .i64 0]) (.agg #[.int .i64 1, .int .i64 0, .int .i64 0])).run Tryz.prog w = .ok true w := by kernel_rfl
end Go.Proofs.YtkgkpcmokmhakaaGreatDoor

namespace Go.Proofs.YtkgkpcmokmhakaaGreatDoor
open Go.RowKit Go.Shelf
attribute [local go_sem] Oper.semAt_some eq3q

set_option maxRecDepth 1000000 in
set_option maxHeartbeats 8000000 in
theorem sGauge_any (w : World) : Calls Tryz.prog 7 #[] w fun e w' => e = .returned (.bool true) ∧ Below w.heap.size w w' := by
  have HB : Hid (Below w.heap.size w w) := hd (Below.refl w.heap.size w)
  go_enter Tryz.func7, Tryz.ntmps7
  go_wp2_with fail
  have hs0 := World.size_alloc w (.cells #[.float .f32 1065353216, .float .f32 1091567616, .float .f32 1073741824] 60)
  have hb := (Below.refl w.heap.size w).alloc (Nat.le_refl _) (.cells #[.float .f32 1065353216, .float .f32 1091567616, .float .f32 1073741824] 60)
  replace HB := hd (HB.out.trans (hb.mono (HB.out.size)))
  have hR := Rd.new w #[.float .f32 1065353216, .float .f32 1091567616, .float .f32 1073741824] 60 3 (flc qL) rfl (by decide)
  generalize (w.alloc (.cells #[.float .f32 1065353216, .float .f32 1091567616, .float .f32 1073741824] 60)) = w1 at *
  clear hb
  have RA := hd hR
  clear hR
  have hs1 := World.size_alloc w1 (.cells #[.string ⟨#[113, 117, 97, 121]⟩, .int .i64 3, .slice (some ⟨w.heap.size, 0, none⟩) 3 3, .slice none 0 0] 35)
  have hb := (Below.refl w1.heap.size w1).alloc (Nat.le_refl _) (.cells #[.string ⟨#[113, 117, 97, 121]⟩, .int .i64 3, .slice (some ⟨w.heap.size, 0, none⟩) 3 3, .slice none 0 0] 35)
  replace HB := hd (HB.out.trans (hb.mono (HB.out.size)))
  replace RA := hd (RA.out.up hb)
  have hR := Blk.new w1 #[.string ⟨#[113, 117, 97, 121]⟩, .int .i64 3, .slice (some ⟨w.heap.size, 0, none⟩) 3 3, .slice none 0 0] 35
  generalize (w1.alloc (.cells #[.string ⟨#[113, 117, 97, 121]⟩, .int .i64 3, .slice (some ⟨w.heap.size, 0, none⟩) 3 3, .slice none 0 0] 35)) = w2 at *
  clear hb
  rw [hs0] at hR
  have BR := hd hR
  clear hR
  have hs2 := World.size_alloc w2 (.cells #[.string ⟨#[106, 117, 109, 112]⟩, .int .i64 32, .int .i64 0] 34)
  have hb := (Below.refl w2.heap.size w2).alloc (Nat.le_refl _) (.cells #[.string ⟨#[106, 117, 109, 112]⟩, .int .i64 32, .int .i64 0] 34)
  replace HB := hd (HB.out.trans (hb.mono (HB.out.size)))
  replace RA := hd (RA.out.up hb)
  replace BR := hd (BR.out.up hb)
  have hR := Rd.new w2 #[.string ⟨#[106, 117, 109, 112]⟩, .int .i64 32, .int .i64 0] 34 1 (ruc qR) rfl (by decide)
  generalize (w2.alloc (.cells #[.string ⟨#[106, 117, 109, 112]⟩, .int .i64 32, .int .i64 0] 34)) = w3 at *
  clear hb
  rw [hs1] at hR
  rw [hs0] at hR
  have RR := hd hR
  clear hR
  clear hs0 hs1 hs2
  refine (q_clean_any _ _ _ w3 RA.out (Rd.nil _ _) RR.out).mono ?_
  rintro e w4 ⟨A1, c1, A2, c2, rfl, hc, hq, hb⟩
  replace HB := hd (HB.out.trans (hb.mono (HB.out.size)))
  replace RA := hd (RA.out.up hb)
  replace BR := hd (BR.out.up hb)
  replace RR := hd (RR.out.up hb)
  have RC := hd hc
  have RG := hd hq
  clear hb hc hq
  clear RR
  go_wp2_with fail
  have hs0 := World.size_alloc w4 (.cells #[.string qN, .int .i64 3, .slice A1 3 c1, .slice A2 1 c2] 35)
  have hb := (Below.refl w4.heap.size w4).alloc (Nat.le_refl _) (.cells #[.string qN, .int .i64 3, .slice A1 3 c1, .slice A2 1 c2] 35)
  replace HB := hd (HB.out.trans (hb.mono (HB.out.size)))
  replace RA := hd (RA.out.up hb)
  replace BR := hd (BR.out.up hb)
  replace RC := hd (RC.out.up hb)
  replace RG := hd (RG.out.up hb)
  have hR := Blk.new w4 #[.string qN, .int .i64 3, .slice A1 3 c1, .slice A2 1 c2] 35
  generalize (w4.alloc (.cells #[.string qN, .int .i64 3, .slice A1 3 c1, .slice A2 1 c2] 35)) = w5 at *
  clear hb
  have BC := hd hR
  clear hR
  clear hs0
  refine (q_fill_any _ _ w5 RC.out RG.out).mono ?_
  rintro e w6 ⟨A3, c3, A4, c4, A5, c5, rfl, hf, he, hs, hb⟩
  replace HB := hd (HB.out.trans (hb.mono (HB.out.size)))
  replace RA := hd (RA.out.up hb)
  replace BR := hd (BR.out.up hb)
  replace RC := hd (RC.out.up hb)
  replace RG := hd (RG.out.up hb)
  replace BC := hd (BC.out.up hb)
  have RF := hd hf
  have RE := hd he
  have RS := hd hs
  clear hb hf he hs
  have y0 := blk_cell BR.out 0
  have y1 := blk_cell BR.out 1
  have y2 := blk_cell BR.out 2
  have y3 := blk_cell BR.out 3
  simp at y0 y1 y2 y3
  have yl := blk_lt BR.out
  have yn := Nat.ne_of_lt yl
  have ym := yn.symm
  go_wp2_with fail
  clear y0 y1 y2 y3 yl yn ym
  have hs0 := World.size_alloc w6 (.cells #[.string qN, .int .i64 3, .slice A3 3 c3, .slice A4 0 c4] 35)
  have hb := (Below.refl w6.heap.size w6).alloc (Nat.le_refl _) (.cells #[.string qN, .int .i64 3, .slice A3 3 c3, .slice A4 0 c4] 35)
  replace HB := hd (HB.out.trans (hb.mono (HB.out.size)))
  replace RA := hd (RA.out.up hb)
  replace BR := hd (BR.out.up hb)
  replace RC := hd (RC.out.up hb)
  replace RG := hd (RG.out.up hb)
  replace BC := hd (BC.out.up hb)
  replace RF := hd (RF.out.up hb)
  replace RE := hd (RE.out.up hb)
  replace RS := hd (RS.out.up hb)
  have hR := Blk.new w6 #[.string qN, .int .i64 3, .slice A3 3 c3, .slice A4 0 c4] 35
  generalize (w6.alloc (.cells #[.string qN, .int .i64 3, .slice A3 3 c3, .slice A4 0 c4] 35)) = w7 at *
  clear hb
  have BF := hd hR
  clear hR
  clear hs0
  refine (q_vote_any _ _ _ _ w7 RA.out RF.out (Rd.nil _ _) RE.out).mono ?_
  rintro e w8 ⟨A6, c6, A7, c7, rfl, hv, hb⟩
  replace HB := hd (HB.out.trans (hb.mono (HB.out.size)))
  replace RA := hd (RA.out.up hb)
  replace BR := hd (BR.out.up hb)
  replace RC := hd (RC.out.up hb)
  replace RG := hd (RG.out.up hb)
  replace BC := hd (BC.out.up hb)
  replace RF := hd (RF.out.up hb)
  replace RE := hd (RE.out.up hb)
  replace RS := hd (RS.out.up hb)
  replace BF := hd (BF.out.up hb)
  have RV := hd hv
  clear hb hv
  clear RA RE BR
  have y0 := blk_cell BC.out 0
  have y1 := blk_cell BC.out 1
  have y2 := blk_cell BC.out 2
  have y3 := blk_cell BC.out 3
  simp at y0 y1 y2 y3
  have yl := blk_lt BC.out
  have yn := Nat.ne_of_lt yl
  have ym := yn.symm
  go_wp2_with fail
  clear y0 y1 y2 y3 yl yn ym
  have hs0 := World.size_alloc w8 (.cells #[.string qN, .int .i64 3, .slice A6 3 c6, .slice A7 0 c7] 35)
  have hb := (Below.refl w8.heap.size w8).alloc (Nat.le_refl _) (.cells #[.string qN, .int .i64 3, .slice A6 3 c6, .slice A7 0 c7] 35)
  replace HB := hd (HB.out.trans (hb.mono (HB.out.size)))
  replace RC := hd (RC.out.up hb)
  replace RG := hd (RG.out.up hb)
  replace BC := hd (BC.out.up hb)
  replace RF := hd (RF.out.up hb)
  replace RS := hd (RS.out.up hb)
  replace BF := hd (BF.out.up hb)
  replace RV := hd (RV.out.up hb)
  have hR := Blk.new w8 #[.string qN, .int .i64 3, .slice A6 3 c6, .slice A7 0 c7] 35
  generalize (w8.alloc (.cells #[.string qN, .int .i64 3, .slice A6 3 c6, .slice A7 0 c7] 35)) = w9 at *
  clear hb
  have BV := hd hR
  clear hR
  have hs1 := World.size_alloc w9 (.cells #[.int .i64 1, .int .i64 0, .int .i64 0] 76)
  have hb := (Below.refl w9.heap.size w9).alloc (Nat.le_refl _) (.cells #[.int .i64 1, .int .i64 0, .int .i64 0] 76)
  replace HB := hd (HB.out.trans (hb.mono (HB.out.size)))
  replace RC := hd (RC.out.up hb)
  replace RG := hd (RG.out.up hb)
  replace BC := hd (BC.out.up hb)
  replace RF := hd (RF.out.up hb)
  replace RS := hd (RS.out.up hb)
  replace BF := hd (BF.out.up hb)
  replace RV := hd (RV.out.up hb)
  replace BV := hd (BV.out.up hb)
  have hR := Blk.new w9 #[.int .i64 1, .int .i64 0, .int .i64 0] 76
  generalize (w9.alloc (.cells #[.int .i64 1, .int .i64 0, .int .i64 0] 76)) = w10 at *
  clear hb
  rw [hs0] at hR
  have BO := hd hR
  clear hR
  clear hs0 hs1
  refine (q_print_any _ _ w10 RC.out RG.out).mono ?_
  rintro e w11 ⟨rfl, hb⟩
  replace HB := hd (HB.out.trans (hb.mono (HB.out.size)))
  replace RC := hd (RC.out.up hb)
  replace RG := hd (RG.out.up hb)
  replace BC := hd (BC.out.up hb)
  replace RF := hd (RF.out.up hb)
  replace RS := hd (RS.out.up hb)
  replace BF := hd (BF.out.up hb)
  replace RV := hd (RV.out.up hb)
  replace BV := hd (BV.out.up hb)
  replace BO := hd (BO.out.up hb)
  clear hb
  clear RC
  have y3 := blk_cell BC.out 3
  simp at y3
  have yl := blk_lt BC.out
  have yn := Nat.ne_of_lt yl
  have ym := yn.symm
  go_wp2_with fail
  clear y3 yl yn ym
  have hs0 := World.size_alloc w11 (.cells #[.int .i64 1, .int .i64 2] 50)
  have hb := (Below.refl w11.heap.size w11).alloc (Nat.le_refl _) (.cells #[.int .i64 1, .int .i64 2] 50)
  replace HB := hd (HB.out.trans (hb.mono (HB.out.size)))
  replace RG := hd (RG.out.up hb)
  replace BC := hd (BC.out.up hb)
  replace RF := hd (RF.out.up hb)
  replace RS := hd (RS.out.up hb)
  replace BF := hd (BF.out.up hb)
  replace RV := hd (RV.out.up hb)
  replace BV := hd (BV.out.up hb)
  replace BO := hd (BO.out.up hb)
  have hR := Rd.new w11 #[.int .i64 1, .int .i64 2] 50 1 (spc [(1, 2)]) rfl (by decide)
  generalize (w11.alloc (.cells #[.int .i64 1, .int .i64 2] 50)) = w12 at *
  clear hb
  have C1 := hd hR
  clear hR
  clear hs0
  refine (spans_yes [(1, 2)] _ _ w12 RG.out C1.out).mono ?_
  rintro e w13 ⟨rfl, hb⟩
  replace HB := hd (HB.out.trans (hb.mono (HB.out.size)))
  replace RG := hd (RG.out.up hb)
  replace BC := hd (BC.out.up hb)
  replace RF := hd (RF.out.up hb)
  replace RS := hd (RS.out.up hb)
  replace BF := hd (BF.out.up hb)
  replace RV := hd (RV.out.up hb)
  replace BV := hd (BV.out.up hb)
  replace BO := hd (BO.out.up hb)
  replace C1 := hd (C1.out.up hb)
  clear hb
  clear C1
  have y2 := blk_cell BF.out 2
  simp at y2
  have yl := blk_lt BF.out
  have yn := Nat.ne_of_lt yl
  have ym := yn.symm
  go_wp2_with fail
  clear y2 yl yn ym
  have hs0 := World.size_alloc w13 (.cells #[.float .f32 1065353216, .float .f32 1065353216, .float .f32 1073741824] 60)
  have hb := (Below.refl w13.heap.size w13).alloc (Nat.le_refl _) (.cells #[.float .f32 1065353216, .float .f32 1065353216, .float .f32 1073741824] 60)
  replace HB := hd (HB.out.trans (hb.mono (HB.out.size)))
  replace RG := hd (RG.out.up hb)
  replace BC := hd (BC.out.up hb)
  replace RF := hd (RF.out.up hb)
  replace RS := hd (RS.out.up hb)
  replace BF := hd (BF.out.up hb)
  replace RV := hd (RV.out.up hb)
  replace BV := hd (BV.out.up hb)
  replace BO := hd (BO.out.up hb)
  have hR := Rd.new w13 #[.float .f32 1065353216, .float .f32 1065353216, .float .f32 1073741824] 60 3 (flc qF) rfl (by decide)
  generalize (w13.alloc (.cells #[.float .f32 1065353216, .float .f32 1065353216, .float .f32 1073741824] 60)) = w14 at *
  clear hb
  have C2 := hd hR
  clear hR
  clear hs0
  refine (qF_yes _ _ w14 RF.out C2.out).mono ?_
  rintro e w15 ⟨rfl, hb⟩
  replace HB := hd (HB.out.trans (hb.mono (HB.out.size)))
  replace RG := hd (RG.out.up hb)
  replace BC := hd (BC.out.up hb)
  replace RF := hd (RF.out.up hb)
  replace RS := hd (RS.out.up hb)
  replace BF := hd (BF.out.up hb)
  replace RV := hd (RV.out.up hb)
  replace BV := hd (BV.out.up hb)
  replace BO := hd (BO.out.up hb)
  replace C2 := hd (C2.out.up hb)
  clear hb
  clear C2 RF BF
  have y3 := blk_cell BC.out 3
  simp at y3
  have yl := blk_lt BC.out
  have yn := Nat.ne_of_lt yl
  have ym := yn.symm
  go_wp2_with fail
  clear y3 yl yn ym
  refine (spans_yes [(1, 2)] _ _ w15 RS.out RG.out).mono ?_
  rintro e w16 ⟨rfl, hb⟩
  replace HB := hd (HB.out.trans (hb.mono (HB.out.size)))
  replace RG := hd (RG.out.up hb)
  replace BC := hd (BC.out.up hb)
  replace RS := hd (RS.out.up hb)
  replace RV := hd (RV.out.up hb)
  replace BV := hd (BV.out.up hb)
  replace BO := hd (BO.out.up hb)
  clear hb
  clear RS RG BC
  have y2 := blk_cell BV.out 2
  simp at y2
  have yl := blk_lt BV.out
  have yn := Nat.ne_of_lt yl
  have ym := yn.symm
  go_wp2_with fail
  clear y2 yl yn ym
  have hs0 := World.size_alloc w16 (.cells #[.float .f32 1065353216, .float .f32 1065353216, .float .f32 1073741824] 60)
  have hb := (Below.refl w16.heap.size w16).alloc (Nat.le_refl _) (.cells #[.float .f32 1065353216, .float .f32 1065353216, .float .f32 1073741824] 60)
  replace HB := hd (HB.out.trans (hb.mono (HB.out.size)))
  replace RV := hd (RV.out.up hb)
  replace BV := hd (BV.out.up hb)
  replace BO := hd (BO.out.up hb)
  have hR := Rd.new w16 #[.float .f32 1065353216, .float .f32 1065353216, .float .f32 1073741824] 60 3 (flc qF) rfl (by decide)
  generalize (w16.alloc (.cells #[.float .f32 1065353216, .float .f32 1065353216, .float .f32 1073741824] 60)) = w17 at *
  clear hb
  have C3 := hd hR
  clear hR
  clear hs0
  refine (qF_yes _ _ w17 RV.out C3.out).mono ?_
  rintro e w18 ⟨rfl, hb⟩
  replace HB := hd (HB.out.trans (hb.mono (HB.out.size)))
  replace RV := hd (RV.out.up hb)
  replace BV := hd (BV.out.up hb)
  replace BO := hd (BO.out.up hb)
  replace C3 := hd (C3.out.up hb)
  clear hb
  clear C3 RV BV
  have y0 := blk_cell BO.out 0
  have y1 := blk_cell BO.out 1
  have y2 := blk_cell BO.out 2
  simp at y0 y1 y2
  have yl := blk_lt BO.out
  have yn := Nat.ne_of_lt yl
  have ym := yn.symm
  go_wp2_with fail
  clear y0 y1 y2 yl yn ym
  first
    | (go_returns; exact ⟨rfl, HB.out⟩)
    | (go_ret; exact ⟨rfl, HB.out⟩)
end Go.Proofs.YtkgkpcmokmhakaaGreatDoor

namespace Go.Proofs.YtkgkpcmokmhakaaGreatDoor
open Go.RowKit
attribute [local go_sem] Oper.semAt_some

def shortR (s n m : Nat) : Bool := decide (s ≤ 60) && (decide (n ≤ 40) || decide (n = 4097)) && (decide ((m : Int) ≤ 8) || decide (m = 2049))

set_option maxRecDepth 1000000 in
set_option maxHeartbeats 2000000 in
theorem short_any (nm : ByteArray) (st : Int) (A A2 : Option Addr) (n c m c2 : Nat) (w : World) :
    Calls Tryz.prog 4 #[.agg #[.string nm, .int .i64 st, .slice A n c, .slice A2 m c2]] w fun e w' => e = .returned (.bool (shortR nm.size n m)) ∧ Below w.heap.size w w' := by
  have HB := hd (show Below w.heap.size w (w.alloc (Obj.cells #[.string nm, .int .i64 st, .slice A n c, .slice A2 m c2] 25)) from (Below.refl _ w).alloc (Nat.le_refl _) _)
  by_cases h1 : nm.size ≤ 60
  · have h1' : (nm.size : Int) ≤ 60 := by omega
    by_cases h2 : n ≤ 40
    · have h2' : (n : Int) ≤ 40 := by omega
      have HR := hd (show shortR nm.size n m = (decide ((m : Int) ≤ 8) || decide (m = 2049)) from by unfold shortR; simp [h1, h2])
      go_enter Tryz.func4, Tryz.ntmps4
      go_wp2_with fail
      refine (shortSpans_any _ m _ 8 _).mono ?_
      rintro e w' ⟨rfl, rfl⟩
      go_wp2_with fail
      go_returns
      exact ⟨by rw [HR.out]; rfl, HB.out⟩
    · have h2a : ¬ (n : Int) ≤ 40 := by omega
      by_cases h3 : n = 4097
      · subst h3
        clear h2a h2
        have HR := hd (show shortR nm.size 4097 m = (decide ((m : Int) ≤ 8) || decide (m = 2049)) from by unfold shortR; simp [h1])
        go_enter Tryz.func4, Tryz.ntmps4
        go_wp2_with fail
        refine (shortSpans_any _ m _ 8 _).mono ?_
        rintro e w' ⟨rfl, rfl⟩
        go_wp2_with fail
        go_returns
        exact ⟨by rw [HR.out]; rfl, HB.out⟩
      · have h3' : ((n : Int) == 4097) = false := by rw [beq_eq_false_iff_ne]; omega
        have HR := hd (show shortR nm.size n m = false from by unfold shortR; simp [h1, h2, h3])
        go_enter Tryz.func4, Tryz.ntmps4
        go_wp2_with fail
        go_returns
        exact ⟨by rw [HR.out]; rfl, HB.out⟩
  · have h1' : ¬ (nm.size : Int) ≤ 60 := by omega
    have HR := hd (show shortR nm.size n m = false from by unfold shortR; simp [h1])
    go_enter Tryz.func4, Tryz.ntmps4
    go_wp2_with fail
    go_returns
    exact ⟨by rw [HR.out]; rfl, HB.out⟩
end Go.Proofs.YtkgkpcmokmhakaaGreatDoor

namespace Go.Proofs.YtkgkpcmokmhakaaGreatDoor
open Go.RowKit
attribute [local go_sem] Oper.semAt_some

theorem flc_append (l m : List Nat) : flc (l ++ m) = flc l ++ flc m := by simp [flc]

theorem flc_len (l : List Nat) : (flc l).length = l.length := by simp [flc]
/-- A read-only row's cells, at their addresses. -/
theorem rd_at {X : World} {N : Nat} {A : Option Addr} {n c : Nat} {xs : List Value} (h : Rd X N (.slice A n c) n xs) (hl : xs.length = n) (ad : Addr) (ha : A = some ad) (j : Nat) (u : Value) (hu : xs[j]? = some u) : X.cell? (ad.add j) = some u := by
  obtain ⟨A', c', e', -, -, hcl⟩ := h
  cases e'
  have hj : j < xs.length := (List.getElem?_eq_some_iff.1 hu).1
  obtain ⟨b, off, e1, hbb, hc⟩ := hcl (by omega)
  rw [ha] at e1
  cases e1
  have e : (⟨b, off, none⟩ : Addr).add j = ⟨b, off + j, none⟩ := by unfold Addr.add; split <;> simp_all
  rw [e]
  exact (hc j hj).trans hu

section
variable {w W W' : World} {R1 R2 Z : Array Value} {tv : Value} {T : List Bool}
end

end Go.Proofs.YtkgkpcmokmhakaaGreatDoor
