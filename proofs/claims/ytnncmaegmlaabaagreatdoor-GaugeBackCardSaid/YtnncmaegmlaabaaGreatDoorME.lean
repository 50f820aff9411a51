/-
  Contract of gauge.kinds (a map of three names to functions), and what a look-up in its map finds. No condition.
  Contracts of gauge.checkRange, checkJump, checkStuck, of the closure of CheckRules, of checks.Each over rules, and of CheckRules. No condition but that the rules are read.
  Contracts of checks.Each over rules, and of gauge.CheckRules. No condition but that the rules are read.
-/
import Derived.Test.YtnncmaegmlaabaaGreatDoorProg
import Derived.Test.YtnncmaegmlaabaaGreatDoorMD
import Derived.WideMake

namespace Go.Proofs.YtnncmaegmlaabaaGreatDoor
open Go.RowKit

@[go_sem] theorem run_store_nilFunc {P : Program} {w : World} {a : Addr} {m : Mode} : (store a .nilFunc m).run P w = stored P w a .nilFunc m := run_store P w a _ m rfl
@[go_sem] theorem run_store_func {P : Program} {w : World} {a : Addr} {m : Mode} (f : Fn) (x y : Array Value) : (store a (.func f x y) m).run P w = stored P w a (.func f x y) m := run_store P w a _ m rfl
theorem under_string : Tryz.prog.underlying 9 = some .string := by kernel_rfl

/-- A store of a new string key into a map. -/
theorem run_map_push {P : Program} (w : World) (mty kt et : TypeId) (r clock : Nat) (es : Array MapEntry) (s : ByteArray) (val : Value) (hm : P.underlying mty = some (.map kt et)) (hk : P.underlying kt = some .string) (hb : w.heap[r]? = some (.map es clock))
    (hf : Instr.findNow .string (.string s) es.toList 0 = some none) :
    (Instr.mapUpdate mty (.map (some r)) (.string s) val).run P w = .ok () { w with heap := w.heap.setIfInBounds r (.map (es.push { key := .string s, val := val, born := clock }) (clock + 1)) } := by
  have hc : (Instr.checkKey false 10000 kt (.string s)).run P w = .ok () w := MapKept.run_checkKey (k := .string s) hk (by simp [MapKept.IsKey]) false 9999
  simp [Instr.mapUpdate, run_underlying hm, MapKept.run_getObj_map hb, hc, MapKept.run_findKey hk hf, MapKept.run_setObj_map _ hb, Result.andThen]

theorem run_map_look {P : Program} (w : World) (mty kt et : TypeId) (r clock : Nat) (es : Array MapEntry) (s : ByteArray) (a : Option (Nat × Value)) (z : Value) (ok : Bool) (hm : P.underlying mty = some (.map kt et)) (hk : P.underlying kt = some .string) (hb : w.heap[r]? = some (.map es clock))
    (hz : (zeroValue et).run P w = .ok z w) (hf : Instr.findNow .string (.string s) es.toList 0 = some a) :
    (Instr.lookup mty (.map (some r)) (.string s) ok).run P w = .ok (if ok then .tuple #[(a.map (·.2)).getD z, .bool a.isSome] else (a.map (·.2)).getD z) w := by
  have hc : (Instr.checkKey es.isEmpty 10000 kt (.string s)).run P w = .ok () w := MapKept.run_checkKey (k := .string s) hk (by simp [MapKept.IsKey]) es.isEmpty 9999
  cases a with
  | none => simp [Instr.lookup, run_underlying hm, MapKept.run_getObj_map hb, hc, MapKept.run_findKey hk hf, hz, Result.andThen]
  | some p => simp [Instr.lookup, run_underlying hm, MapKept.run_getObj_map hb, hc, MapKept.run_findKey hk hf, Result.andThen]

def sRange : ByteArray := ⟨#[114, 97, 110, 103, 101]⟩
def sJump : ByteArray := ⟨#[106, 117, 109, 112]⟩
def sStuck : ByteArray := ⟨#[115, 116, 117, 99, 107]⟩
def kv (f g : Nat) : Value := .agg #[.func (.func f) #[] #[], .func (.func g) #[] #[]]
def kEs1 : Array MapEntry := #[{ key := .string sRange, val := kv 146 147, born := 0 }]
def kEs2 : Array MapEntry := kEs1.push { key := .string sJump, val := kv 148 149, born := 1 }
def kEs : Array MapEntry := kEs2.push { key := .string sStuck, val := kv 150 151, born := 2 }

def kLook (s : ByteArray) : Option (Nat × Value) :=
  bif s == sRange then some (0, kv 146 147) else bif s == sJump then some (1, kv 148 149) else bif s == sStuck then some (2, kv 150 151) else none
theorem find_kEs (s : ByteArray) : Instr.findNow .string (.string s) kEs.toList 0 = some (kLook s) := by
  show Instr.findNow .string (.string s) [_, _, _] 0 = _
  simp only [Instr.findNow, Instr.sameNow, kLook]
  cases h1 : s == sRange <;> cases h2 : s == sJump <;> cases h3 : s == sStuck <;> rfl

set_option maxRecDepth 100000 in
theorem kinds_any (w : World) : Calls Tryz.prog 115 #[] w fun e w' => e = .returned (.map (some w.heap.size)) ∧ w'.heap[w.heap.size]? = some (.map kEs 3) ∧ Below w.heap.size w w' := by
  have hb0 := (MapKept.heap_alloc w (.map #[] 0)).1
  obtain ⟨W0, hW0⟩ : ∃ W0, W0 = w.alloc (.map #[] 0) := ⟨_, rfl⟩
  rw [← hW0] at hb0
  have e0 : (Instr.makeMap 170 none).run Tryz.prog w = .ok (.map (some w.heap.size)) W0 := by rw [hW0]; exact run_makeMap_plain w _
  have e1 := run_map_push (P := Tryz.prog) W0 170 9 176 w.heap.size 0 #[] sRange (kv 146 147) (by kernel_rfl) under_string hb0 rfl
  obtain ⟨W1, hW1⟩ : ∃ W1, W1 = { W0 with heap := W0.heap.setIfInBounds w.heap.size (.map (#[].push { key := .string sRange, val := kv 146 147, born := 0 }) (0 + 1)) } := ⟨_, rfl⟩
  rw [← hW1] at e1
  have hb1 : W1.heap[w.heap.size]? = some (.map kEs1 1) := by rw [hW1]; exact (MapKept.heap_set hb0).1
  have e2 := run_map_push (P := Tryz.prog) W1 170 9 176 w.heap.size 1 kEs1 sJump (kv 148 149) (by kernel_rfl) under_string hb1 (by kernel_rfl)
  obtain ⟨W2, hW2⟩ : ∃ W2, W2 = { W1 with heap := W1.heap.setIfInBounds w.heap.size (.map (kEs1.push { key := .string sJump, val := kv 148 149, born := 1 }) (1 + 1)) } := ⟨_, rfl⟩
  rw [← hW2] at e2
  have hb2 : W2.heap[w.heap.size]? = some (.map kEs2 2) := by rw [hW2]; exact (MapKept.heap_set hb1).1
  have e3 := run_map_push (P := Tryz.prog) W2 170 9 176 w.heap.size 2 kEs2 sStuck (kv 150 151) (by kernel_rfl) under_string hb2 (by kernel_rfl)
  obtain ⟨W3, hW3⟩ : ∃ W3, W3 = { W2 with heap := W2.heap.setIfInBounds w.heap.size (.map (kEs2.push { key := .string sStuck, val := kv 150 151, born := 2 }) (2 + 1)) } := ⟨_, rfl⟩
  rw [← hW3] at e3
  have hb3 : W3.heap[w.heap.size]? = some (.map kEs 3) := by rw [hW3]; exact (MapKept.heap_set hb2).1
  have hB : Below w.heap.size w W3 := by
    refine ⟨by rw [hW3, hW2, hW1, hW0]; rfl, by rw [hW3, hW2, hW1, hW0]; rfl, by rw [hW3, hW2, hW1, hW0]; rfl, by rw [hW3, hW2, hW1, hW0]; simp, fun k hk => ?_⟩
    rw [hW3, (MapKept.heap_set hb2).2 k (by omega), hW2, (MapKept.heap_set hb1).2 k (by omega), hW1, (MapKept.heap_set hb0).2 k (by omega), hW0, (MapKept.heap_alloc w _).2 k hk]
  have HB := hd (And.intro hb3 hB)
  simp only [sRange, sJump, sStuck, kv] at e1 e2 e3
  have HW0 := hd hW0
  clear hb0 hb1 hb2 hb3 hB hW1 hW2 hW3 hW0
  go_enter Tryz.func115, Tryz.ntmps115
  go_wp2
  go_ret
  exact ⟨rfl, HB.out⟩

end Go.Proofs.YtnncmaegmlaabaaGreatDoor

namespace Go.Proofs.YtnncmaegmlaabaaGreatDoor
open Go.RowKit

def chkRg (A B : Int) : Int := fst0 [rng A (-1024) 1024, rng B A 1024]
def chkJp (A B : Int) : Int := fst0 [rng A 0 2048, rng B 0 0]
def chkSt (A B : Int) : Int := fst0 [rng A 1 4096, rng B 0 0]

set_option maxRecDepth 1000000 in
theorem checkRange_any (kd : ByteArray) (A B : Int) (w : World) : Calls Tryz.prog 146 #[.agg #[.string kd, .int .i64 A, .int .i64 B]] w fun e w' => e = .returned (.int .i64 (chkRg A B)) ∧ Below w.heap.size w w' := by
  go_enter Tryz.func146, Tryz.ntmps146
  go_wp2
  have c1 := World.cell?_alloc_new w #[.string kd, .int .i64 A, .int .i64 B] 53 1
  have c2 := World.cell?_alloc_new w #[.string kd, .int .i64 A, .int .i64 B] 53 2
  have hsz : w.heap.size < (w.alloc (Obj.cells #[.string kd, .int .i64 A, .int .i64 B] 53)).heap.size := by simp
  have hb1 : Below w.heap.size w (w.alloc (Obj.cells #[.string kd, .int .i64 A, .int .i64 B] 53)) := (Below.refl _ w).alloc (Nat.le_refl _) _
  generalize (w.alloc (Obj.cells #[.string kd, .int .i64 A, .int .i64 B] 53)) = W1 at c1 c2 hsz hb1 ⊢
  have F1 : ∀ p : Bw W1, p.out.cell? ⟨w.heap.size, 1, none⟩ = some (.int .i64 A) := fun p => p.cell hsz (by simpa using c1)
  have F2 : ∀ p : Bw W1, p.out.cell? ⟨w.heap.size, 2, none⟩ = some (.int .i64 B) := fun p => p.cell hsz (by simpa using c2)
  clear c1 c2
  refine wp_region_bw_tail 8 (by kernel_rfl) (by kernel_rfl) ?_
  simp only [List.take_succ_cons, List.take_zero, List.drop_succ_cons, List.drop_zero]
  repeat (first | go_big_quiet_step (first | (go_at_call 84; exact Bw.pure _ (rng_any _ _ _ _))))
  refine wpQuiet_nil ?_
  rintro ⟨W2, hB2⟩
  change wpList _ _ _ _ _ W2
  go_wp2_with (go_at_call 49; refine (first2 _ _ _ _).mono ?_; rintro e w' ⟨rfl, rfl⟩)
  go_ret
  exact ⟨rfl, hb1.trans ((hB2.alloc hB2.size _).mono hb1.size)⟩

set_option maxRecDepth 1000000 in
theorem checkJump_any (kd : ByteArray) (A B : Int) (w : World) : Calls Tryz.prog 148 #[.agg #[.string kd, .int .i64 A, .int .i64 B]] w fun e w' => e = .returned (.int .i64 (chkJp A B)) ∧ Below w.heap.size w w' := by
  go_enter Tryz.func148, Tryz.ntmps148
  go_wp2
  have c1 := World.cell?_alloc_new w #[.string kd, .int .i64 A, .int .i64 B] 53 1
  have c2 := World.cell?_alloc_new w #[.string kd, .int .i64 A, .int .i64 B] 53 2
  have hsz : w.heap.size < (w.alloc (Obj.cells #[.string kd, .int .i64 A, .int .i64 B] 53)).heap.size := by simp
  have hb1 : Below w.heap.size w (w.alloc (Obj.cells #[.string kd, .int .i64 A, .int .i64 B] 53)) := (Below.refl _ w).alloc (Nat.le_refl _) _
  generalize (w.alloc (Obj.cells #[.string kd, .int .i64 A, .int .i64 B] 53)) = W1 at c1 c2 hsz hb1 ⊢
  have F1 : ∀ p : Bw W1, p.out.cell? ⟨w.heap.size, 1, none⟩ = some (.int .i64 A) := fun p => p.cell hsz (by simpa using c1)
  have F2 : ∀ p : Bw W1, p.out.cell? ⟨w.heap.size, 2, none⟩ = some (.int .i64 B) := fun p => p.cell hsz (by simpa using c2)
  clear c1 c2
  refine wp_region_bw_tail 6 (by kernel_rfl) (by kernel_rfl) ?_
  simp only [List.take_succ_cons, List.take_zero, List.drop_succ_cons, List.drop_zero]
  repeat (first | go_big_quiet_step (first | (go_at_call 84; exact Bw.pure _ (rng_any _ _ _ _))))
  refine wpQuiet_nil ?_
  rintro ⟨W2, hB2⟩
  change wpList _ _ _ _ _ W2
  go_wp2_with (go_at_call 49; refine (first2 _ _ _ _).mono ?_; rintro e w' ⟨rfl, rfl⟩)
  go_ret
  exact ⟨rfl, hb1.trans ((hB2.alloc hB2.size _).mono hb1.size)⟩

set_option maxRecDepth 1000000 in
theorem checkStuck_any (kd : ByteArray) (A B : Int) (w : World) : Calls Tryz.prog 150 #[.agg #[.string kd, .int .i64 A, .int .i64 B]] w fun e w' => e = .returned (.int .i64 (chkSt A B)) ∧ Below w.heap.size w w' := by
  go_enter Tryz.func150, Tryz.ntmps150
  go_wp2
  have c1 := World.cell?_alloc_new w #[.string kd, .int .i64 A, .int .i64 B] 53 1
  have c2 := World.cell?_alloc_new w #[.string kd, .int .i64 A, .int .i64 B] 53 2
  have hsz : w.heap.size < (w.alloc (Obj.cells #[.string kd, .int .i64 A, .int .i64 B] 53)).heap.size := by simp
  have hb1 : Below w.heap.size w (w.alloc (Obj.cells #[.string kd, .int .i64 A, .int .i64 B] 53)) := (Below.refl _ w).alloc (Nat.le_refl _) _
  generalize (w.alloc (Obj.cells #[.string kd, .int .i64 A, .int .i64 B] 53)) = W1 at c1 c2 hsz hb1 ⊢
  have F1 : ∀ p : Bw W1, p.out.cell? ⟨w.heap.size, 1, none⟩ = some (.int .i64 A) := fun p => p.cell hsz (by simpa using c1)
  have F2 : ∀ p : Bw W1, p.out.cell? ⟨w.heap.size, 2, none⟩ = some (.int .i64 B) := fun p => p.cell hsz (by simpa using c2)
  clear c1 c2
  refine wp_region_bw_tail 6 (by kernel_rfl) (by kernel_rfl) ?_
  simp only [List.take_succ_cons, List.take_zero, List.drop_succ_cons, List.drop_zero]
  repeat (first | go_big_quiet_step (first | (go_at_call 84; exact Bw.pure _ (rng_any _ _ _ _))))
  refine wpQuiet_nil ?_
  rintro ⟨W2, hB2⟩
  change wpList _ _ _ _ _ W2
  go_wp2_with (go_at_call 49; refine (first2 _ _ _ _).mono ?_; rintro e w' ⟨rfl, rfl⟩)
  go_ret
  exact ⟨rfl, hb1.trans ((hB2.alloc hB2.size _).mono hb1.size)⟩


/-- The error of a rule. -/
def chkRule (kd : ByteArray) (A B : Int) : Int := bif kd == sRange then chkRg A B else bif kd == sJump then chkJp A B else bif kd == sStuck then chkSt A B else 13

theorem look_kEs (w : World) (r : Nat) (s : ByteArray) (ok : Bool) (z : Value) (hz : (zeroValue 176).run Tryz.prog w = .ok z w) (hb : w.heap[r]? = some (.map kEs 3)) :
    (Instr.lookup 170 (.map (some r)) (.string s) ok).run Tryz.prog w = .ok (if ok then .tuple #[((kLook s).map (·.2)).getD z, .bool (kLook s).isSome] else ((kLook s).map (·.2)).getD z) w :=
  run_map_look w _ 9 176 r 3 kEs s _ z ok (by kernel_rfl) under_string hb hz (find_kEs s)
theorem zeroKind (w : World) : (zeroValue 176).run Tryz.prog w = .ok (.agg #[.nilFunc, .nilFunc]) w := by kernel_rfl

set_option maxRecDepth 1000000 in
set_option maxHeartbeats 1000000 in
/-- The closure of CheckRules: the table's variable lies in block T, the map in block r. -/
theorem ruleClo_any (kd : ByteArray) (A B : Int) (T r : Nat) (w : World) (hT : w.cell? ⟨T, 0, none⟩ = some (.map (some r))) (hr : w.heap[r]? = some (.map kEs 3)) :
    Calls Tryz.prog 145 #[.agg #[.string kd, .int .i64 A, .int .i64 B], .pointer (some ⟨T, 0, none⟩)] w fun e w' => e = .returned (.int .i64 (chkRule kd A B)) ∧ Below w.heap.size w w' := by
  have hTlt : T < w.heap.size := World.block_lt_of_cell? _ _ hT
  have hrlt : r < w.heap.size := (Array.getElem?_eq_some_iff.1 hr).1
  have hlk := look_kEs (w.alloc (Obj.cells #[.string kd, .int .i64 A, .int .i64 B] 53)) r kd true _ (zeroKind _) (by rw [Below.heap_alloc _ _ _ hrlt]; exact hr)
  have cT := fun o => cell_alloc_old (o := o) hT
  have HB := hd (fun o o' => ((Below.refl _ w).alloc (Nat.le_refl _) o).alloc (by simp) o')
  have hne : ¬ T = w.heap.size := by omega
  clear hT hr
  cases h1 : kd == sRange
  · cases h2 : kd == sJump
    · cases h3 : kd == sStuck
      · have HC := hd (show chkRule kd A B = 13 by simp [chkRule, h1, h2, h3])
        simp [kLook, kv, h1, h2, h3] at hlk
        clear h1 h2 h3
        go_enter Tryz.func145, Tryz.ntmps145
        go_wp2
        go_ret
        exact ⟨by rw [HC.out]; rfl, HB.out _ _⟩
      · have HC := hd (show chkRule kd A B = chkSt A B by simp [chkRule, h1, h2, h3])
        simp [kLook, kv, h1, h2, h3] at hlk
        clear h1 h2 h3
        go_enter Tryz.func145, Tryz.ntmps145
        go_wp2_with (go_at_call 150; refine (checkStuck_any _ _ _ _).mono ?_; rintro e w' ⟨rfl, hb2⟩)
        go_ret
        exact ⟨by rw [HC.out]; rfl, (HB.out _ _).trans (hb2.mono (HB.out _ _).size)⟩
    · have HC := hd (show chkRule kd A B = chkJp A B by simp [chkRule, h1, h2])
      simp [kLook, kv, h1, h2] at hlk
      clear h1 h2
      go_enter Tryz.func145, Tryz.ntmps145
      go_wp2_with (go_at_call 148; refine (checkJump_any _ _ _ _).mono ?_; rintro e w' ⟨rfl, hb2⟩)
      go_ret
      exact ⟨by rw [HC.out]; rfl, (HB.out _ _).trans (hb2.mono (HB.out _ _).size)⟩
  · have HC := hd (show chkRule kd A B = chkRg A B by simp [chkRule, h1])
    simp [kLook, kv, h1] at hlk
    clear h1
    go_enter Tryz.func145, Tryz.ntmps145
    go_wp2_with (go_at_call 146; refine (checkRange_any _ _ _ _).mono ?_; rintro e w' ⟨rfl, hb2⟩)
    go_ret
    exact ⟨by rw [HC.out]; rfl, (HB.out _ _).trans (hb2.mono (HB.out _ _).size)⟩

end Go.Proofs.YtnncmaegmlaabaaGreatDoor

namespace Go.Proofs.YtnncmaegmlaabaaGreatDoor
open Go.RowKit

abbrev Ru := ByteArray × Int × Int
def ru0 : Ru := (⟨#[]⟩, 0, 0)
/-- The cells of a list of rules. -/
def ruc (l : List Ru) : List Value := l.flatMap fun x => [.string x.1, .int .i64 x.2.1, .int .i64 x.2.2]
theorem ruc_len (l : List Ru) : (ruc l).length = 3 * l.length := by
  induction l with
  | nil => rfl
  | cons s l ih => simp only [ruc, List.flatMap_cons, List.length_append, List.length_cons, List.length_nil] at ih ⊢; omega
theorem ruc_getD (l : List Ru) (k : Nat) (hk : k < l.length) : (ruc l)[k * 3]? = some (.string (l.getD k ru0).1) ∧ (ruc l)[k * 3 + 1]? = some (.int .i64 (l.getD k ru0).2.1) ∧ (ruc l)[k * 3 + 2]? = some (.int .i64 (l.getD k ru0).2.2) := by
  induction l generalizing k with
  | nil => simp at hk
  | cons s l ih =>
    cases k with
    | zero => simp [ruc]
    | succ k =>
      have := ih k (by simpa using hk)
      simp only [ruc, List.flatMap_cons] at this ⊢
      rw [show (k + 1) * 3 = k * 3 + 3 by omega, show k * 3 + 3 + 1 = k * 3 + 1 + 3 by omega, show k * 3 + 3 + 2 = k * 3 + 2 + 3 by omega]
      simpa using this

def ruErr (l : List Ru) : List Int := l.map fun x => chkRule x.1 x.2.1 x.2.2
def chkRules (l : List Ru) : Int := if 8 < l.length then 5 else fst0 (ruErr l)
theorem ruErr_at (l : List Ru) (k : Nat) (hk : k < l.length) : (ruErr l).getD k 0 = chkRule (l.getD k ru0).1 (l.getD k ru0).2.1 (l.getD k ru0).2.2 := by
  simp [ruErr, hk]

set_option maxRecDepth 1000000 in
set_option maxHeartbeats 1000000 in
theorem eachRule_any (sl : Value) (l : List Ru) (T r : Nat) (w : World) (h : Rd w w.heap.size sl l.length (ruc l)) (hT : w.cell? ⟨T, 0, none⟩ = some (.map (some r))) (hr : w.heap[r]? = some (.map kEs 3)) :
    Calls Tryz.prog 144 #[sl, .func (.func 145) #[] #[.pointer (some ⟨T, 0, none⟩)]] w fun e w' => e = .returned (.int .i64 (fst0 (ruErr l))) ∧ Below w.heap.size w w' := by
  obtain ⟨A, c, rfl, hc1, hc2, hc⟩ := h
  have hTlt : T < w.heap.size := World.block_lt_of_cell? _ _ hT
  have hrlt : r < w.heap.size := (Array.getElem?_eq_some_iff.1 hr).1
  unfold maxLen at hc2
  have HC := hd hc
  have HR := hd hr
  clear hc hr
  go_enter Tryz.func144, Tryz.ntmps144
  go_wp2
  go_loopw [4, 10] (fun _ i wr => ∃ k : Nat, k ≤ l.length ∧ i = .int .i64 k ∧ Below w.heap.size w wr ∧ Hid (∀ j, j < k → (ruErr l).getD j 0 = 0)) (fun _ i _ => l.length - (intOf i).toNat)
  case atStart => exact ⟨0, Nat.zero_le _, rfl, Below.refl _ _, hd (fun j hj => absurd hj (by omega))⟩
  case round =>
    obtain ⟨k, hk, rfl, hb, HZ⟩ := hrel
    by_cases hlt : k < l.length
    · obtain ⟨b, off, rfl, hbb, hcell⟩ := HC.out (by omega)
      obtain ⟨q0, q1, q2⟩ := ruc_getD l k hlt
      have hs0 := (hb.cell (p := ⟨b, _, none⟩) hbb).trans ((hcell (k * 3) (by rw [ruc_len]; omega)).trans q0)
      have hs1 := (hb.cell (p := ⟨b, _, none⟩) hbb).trans ((hcell (k * 3 + 1) (by rw [ruc_len]; omega)).trans q1)
      have hs2 := (hb.cell (p := ⟨b, _, none⟩) hbb).trans ((hcell (k * 3 + 2) (by rw [ruc_len]; omega)).trans q2)
      rw [← Nat.add_assoc] at hs1 hs2
      have HE := hd (ruErr_at l k hlt)
      have K0 := hd (fun o => cell_alloc_old (o := o) ((hb.cell (p := ⟨T, 0, none⟩) hTlt).trans hT))
      have K1 := hd (fun o => (Below.heap_alloc wr o r (by have := hb.size; omega)).trans ((hb.block r hrlt).trans HR.out))
      clear hcell q0 q1 q2 hT
      generalize (l.getD k ru0).1 = kd at *
      generalize (l.getD k ru0).2.1 = A at *
      generalize (l.getD k ru0).2.2 = B at *
      by_cases h0 : chkRule kd A B = 0
      · have H0 := hd h0
        clear h0
        go_wp2_with (go_at_call 145; refine (ruleClo_any _ _ _ T r _ (K0.out _) (K1.out _)).mono ?_; rintro e w' ⟨rfl, hb2⟩; rw [H0.out])
        go_roundw
        case rel => exact ⟨k + 1, by omega, by go_num, (hb.alloc hb.size _).trans (hb2.mono (by have := hb.size; simp; omega)), hd (fun j hj => if e : j = k then by rw [e, HE.out, H0.out] else HZ.out j (by omega))⟩
        case measure => simp [intOf]; omega
      · have H1 : (chkRule kd A B != 0) = true := by simpa using h0
        have H0 := hd h0
        clear h0
        go_wp2_with (go_at_call 145; refine (ruleClo_any _ _ _ T r _ (K0.out _) (K1.out _)).mono ?_; rintro e w' ⟨rfl, hb2⟩)
        go_ret
        exact ⟨by rw [fst0_at (ruErr l) k (by simpa [ruErr] using hlt) HZ.out (by rw [HE.out]; exact H0.out), HE.out]; rfl, (hb.alloc hb.size _).trans (hb2.mono (by have := hb.size; simp; omega))⟩
    · go_wp2
      go_ret
      have hke : k = l.length := by omega
      exact ⟨by rw [fst0_none (ruErr l) (fun j hj => HZ.out j (by simp [ruErr] at hj; omega))]; rfl, hb⟩

set_option maxRecDepth 1000000 in
theorem chkRules_any (sl : Value) (l : List Ru) (w : World) (h : Rd w w.heap.size sl l.length (ruc l)) :
    Calls Tryz.prog 114 #[sl] w fun e w' => e = .returned (.int .i64 (chkRules l)) ∧ Below w.heap.size w w' := by
  have h2 := h
  obtain ⟨A, c, rfl, hc1, hc2, -⟩ := h2
  have HH := hd h
  unfold maxLen at hc2
  clear h
  by_cases h8 : 8 < l.length
  · have HC := hd (show chkRules l = 5 by simp [chkRules, h8])
    go_enter Tryz.func114, Tryz.ntmps114
    go_wp2
    go_ret
    exact ⟨by rw [HC.out]; rfl, Below.refl _ _⟩
  · have HC := hd (show chkRules l = fst0 (ruErr l) by simp [chkRules, h8])
    go_enter Tryz.func114, Tryz.ntmps114
    go_wp2_with (first | (go_at_call 115; refine (kinds_any _).mono ?_; rintro e w1 ⟨rfl, hm1, hb1⟩; have HM1 := hd (And.intro hm1 hb1); clear hm1 hb1))
    obtain ⟨hm1, hb1⟩ := HM1.out
    have hb2 := hb1.alloc hb1.size (Obj.cells #[.map (some w.heap.size)] 170)
    refine (eachRule_any _ l w1.heap.size w.heap.size _ ((HH.out.below hb2 (Nat.le_refl _)).mono hb2.size) (by simp) ((Below.heap_alloc w1 _ _ (Array.getElem?_eq_some_iff.1 hm1).1).trans hm1)).mono ?_
    rintro e w2 ⟨rfl, hb3⟩
    have HB := hd (hb2.trans (hb3.mono hb2.size))
    clear hm1 hb1 hb2 hb3
    go_wp2
    go_ret
    exact ⟨by rw [HC.out]; rfl, HB.out⟩

end Go.Proofs.YtnncmaegmlaabaaGreatDoor
