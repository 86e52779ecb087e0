/-
  Layer 2's reader in memory, there or not: what each of its methods does. Conditions: none.
-/
import Derived.Test.YtifcpglifcjdjaaWr
import Derived.Laws.BitsAllLaws
import Derived.Lib.UnsafeStr
namespace Go.Proofs.Ytifcpglifcjdjaa.Wire
set_option maxRecDepth 100000
open Go.RowKit Go.Proofs.Ytifcpglifcjdjaa.Mem

abbrev nil : ByteArray := ⟨#[]⟩
/-- A pointer to a reader in block p, or none. -/
def ptr (p : Option Nat) : Value := .pointer (p.map fun g => ⟨g, 0, none⟩)
/-- A reader: s is left; b: it is broken (or isn't there). -/
structure Rd (w : World) (p : Option Nat) (s : ByteArray) (b : Bool) : Prop where
  cells : ∀ g, p = some g → Cells w g 139 [.string s, .bool b]
  none : p = none → b = true
  empty : b = true → s = nil
  small : s.size ≤ 140737488355328
/-- What a reader's call may turn: the reader. -/
abbrev Foot (p : Option Nat) : World → World → Prop := Only (fun k => some k = p)
theorem Rd.only {S : Nat → Prop} {w w' : World} {p : Option Nat} {s : ByteArray} {b : Bool} (h : Rd w p s b) (ho : Only S w w') (hn : ∀ g, p = some g → ¬ S g) : Rd w' p s b :=
  ⟨fun g hg => cells_only (h.cells g hg) ho (hn g hg), h.none, h.empty, h.small⟩
theorem Rd.later {w w' : World} {p : Option Nat} {s : ByteArray} {b : Bool} (h : Rd w p s b) (hb : Below w.heap.size w w') : Rd w' p s b := h.only (S := fun _ => False) (Only.of_below hb) fun _ _ h => h
theorem foot_trans {p : Option Nat} {a b c : World} (h : Foot p a b) (k : Foot p b c) : Foot p a c := h.trans k fun _ _ h => h
theorem foot_after {p : Option Nat} {a b c : World} (h : Foot p a b) (k : Below b.heap.size b c) : Foot p a c := h.trans (S' := fun _ => False) (Only.of_below k) fun _ _ h => h.elim
theorem foot_before {p : Option Nat} {a b c : World} (h : Below a.heap.size a b) (k : Foot p b c) : Foot p a c := (Only.of_below h).trans k fun _ _ h => h

theorem break_any (w : World) (p : Option Nat) (s : ByteArray) (b : Bool) (h : Rd w p s b) :
    Calls Try.prog 78 #[ptr p] w fun e w' => e = .returned (.tuple #[]) ∧ Rd w' p nil true ∧ Foot p w w' := by
  cases p with
  | none =>
    have HR := Lib.hid (show Rd w none nil true from ⟨fun g hg => (by cases hg), fun _ => rfl, fun _ => rfl, by decide⟩)
    clear h
    unfold ptr
    go_enter Try.func78, Try.ntmps78
    go_wp2
    go_returns
    exact ⟨rfl, HR.out, Only.refl _ _⟩
  | some g =>
    have hc := h.cells g rfl
    have c0 := hc.cell (j := 0) rfl
    have c1 := hc.cell (j := 1) rfl
    have f0 := hc.frozen (j := 0) (by simp)
    have f1 := hc.frozen (j := 1) (by simp)
    have HC := Lib.hid hc
    clear hc h
    unfold ptr
    go_enter Try.func78, Try.ntmps78
    go_wp2
    go_returns
    refine ⟨rfl, ⟨fun g' hg' => ?_, fun h => (by cases h), fun _ => rfl, by decide⟩, ?_⟩
    · obtain rfl := Option.some.inj hg'
      exact (HC.out.set_ 0 (.string nil)).set_ 1 (.bool true)
    · exact ((Only.of_set w ⟨g, 0, none⟩ (.string nil)).trans (Only.of_set _ ⟨g, 1, none⟩ (.bool true)) fun k _ hk => hk).mono fun k _ hk => by rw [show k = g from hk]

/-- The next n bytes, or none; what is left then; is it broken then? -/
def tk (s : ByteArray) (n : Nat) : ByteArray := if s.size < n then nil else s.extract 0 n
def rest (s : ByteArray) (n : Nat) : ByteArray := if s.size < n then nil else s.extract n s.size
def brk (s : ByteArray) (b : Bool) (n : Nat) : Bool := if s.size < n then true else b
theorem rest_size (s : ByteArray) (n : Nat) : (rest s n).size ≤ s.size := by
  unfold rest
  split
  · exact Nat.zero_le _
  · rw [ByteArray.size_extract]; omega
theorem tk_size (s : ByteArray) (n : Nat) : (tk s n).size ≤ n := by
  unfold tk
  split
  · exact Nat.zero_le _
  · rw [ByteArray.size_extract]; omega
theorem tk_size' (s : ByteArray) (n : Nat) : (tk s n).size ≤ s.size := by
  unfold tk
  split
  · exact Nat.zero_le _
  · rw [ByteArray.size_extract]; omega
theorem extract_nil (i j : Nat) : nil.extract i j = nil := by
  apply ByteArray.ext
  rw [ByteArray.data_extract]
  simp

theorem take_any (w : World) (p : Option Nat) (s : ByteArray) (b : Bool) (n : Nat) (h : Rd w p s b) (hn : n ≤ 140737488355328) :
    Calls Try.prog 64 #[ptr p, .int .i64 (n : Int)] w fun e w' => e = .returned (.string (tk s n)) ∧ Rd w' p (rest s n) (brk s b n) ∧ Foot p w w' := by
  cases p with
  | none =>
    have hb := h.none rfl
    have hs := h.empty hb
    subst hb; subst hs
    have e1 : tk nil n = nil := by unfold tk; split <;> simp [extract_nil]
    have e2 : rest nil n = nil := by unfold rest; split <;> simp [extract_nil]
    have e3 : brk nil true n = true := by unfold brk; split <;> rfl
    rw [e1, e2, e3]
    have HR := Lib.hid h
    clear h e1 e2 e3
    unfold ptr
    go_enter Try.func64, Try.ntmps64
    go_wp2
    go_returns
    exact ⟨rfl, HR.out, Only.refl _ _⟩
  | some g =>
    have hsm := h.small
    have hc := h.cells g rfl
    have c0 := hc.cell (j := 0) rfl
    have f0 := hc.frozen (j := 0) (by simp)
    have HC := Lib.hid hc
    have HR := Lib.hid h
    clear hc h
    by_cases hlt : s.size < n
    · have e1 : tk s n = nil := by unfold tk; rw [if_pos hlt]
      have e2 : rest s n = nil := by unfold rest; rw [if_pos hlt]
      have e3 : brk s b n = true := by unfold brk; rw [if_pos hlt]
      rw [e1, e2, e3]
      clear e1 e2 e3
      unfold ptr
      go_enter Try.func64, Try.ntmps64
      go_wp2_with fail
      refine (break_any _ (some g) _ _ HR.out).mono ?_
      rintro e w2 ⟨rfl, hr2, ho2⟩
      have HR2 := Lib.hid hr2
      have HO2 := Lib.hid ho2
      clear hr2 ho2
      go_wp2
      go_returns
      exact ⟨rfl, HR2.out, HO2.out⟩
    · have HT1 := Lib.hid (show tk s n = s.extract 0 n by unfold tk; rw [if_neg hlt])
      have HT2 := Lib.hid (show rest s n = s.extract n s.size by unfold rest; rw [if_neg hlt])
      have HT3 := Lib.hid (show brk s b n = b by unfold brk; rw [if_neg hlt])
      have HSZ := Lib.hid (rest_size s n)
      unfold ptr
      go_enter Try.func64, Try.ntmps64
      go_wp2
      go_returns
      refine ⟨(by rw [HT1.out]; rfl), ⟨fun g' hg' => ?_, fun h => (by cases h), fun hb => ?_, Nat.le_trans HSZ.out hsm⟩, ?_⟩
      · obtain rfl := Option.some.inj hg'
        rw [HT2.out, HT3.out]
        exact HC.out.set_ 0 (.string (s.extract n s.size))
      · rw [HT3.out] at hb
        have := HR.out.empty hb
        rw [HT2.out, this, extract_nil]
      · exact (Only.of_set w ⟨g, 0, none⟩ (.string (s.extract n s.size))).mono fun k _ hk => by rw [show k = g from hk]

theorem or_byte (m b : Nat) (hm : m < 72057594037927936) (hb : b < 256) : bits .or .u64 ((m : Int) * 256) (b : Int) = (m : Int) * 256 + b := by
  rw [show (m : Int) * 256 = ((m * 256 : Nat) : Int) by omega, u64_or_nat _ _ (by omega) (by omega)]
  have h := Nat.shiftLeft_add_eq_or_of_lt (i := 8) (show b < 2 ^ 8 by omega) m
  simp only [Nat.shiftLeft_eq, show (2 : Nat) ^ 8 = 256 from rfl] at h
  omega

theorem rnum_any (w : World) (p : Option Nat) (s : ByteArray) (b : Bool) (n : Nat) (h : Rd w p s b) (hn : n ≤ 8) :
    Calls Try.prog 63 #[ptr p, .int .i64 (n : Int)] w fun e w' => e = .returned (.int .u64 (valN (tk s n).data.toList : Nat)) ∧ Rd w' p (rest s n) (brk s b n) ∧ Foot p w w' := by
  have htz := tk_size s n
  have HR := Lib.hid h
  clear h
  go_enter Try.func63, Try.ntmps63
  go_wp2_with fail
  refine (take_any _ p _ _ n HR.out (by omega)).mono ?_
  rintro e w2 ⟨rfl, hr2, ho2⟩
  have HR2 := Lib.hid hr2
  have HO2 := Lib.hid ho2
  clear hr2 ho2
  generalize hu : tk s n = u at *
  have HU := Lib.hid hu
  clear hu
  go_wp2
  go_loop [6, 7, 13] (fun n _ i => ∃ k : Nat, k ≤ u.size ∧ i = .int .i64 k ∧ n = .int .u64 (valN (u.data.toList.take k) : Nat)) (fun _ _ i => u.size - (intOf i).toNat)
  case atStart => exact ⟨0, Nat.zero_le _, rfl, rfl⟩
  case round =>
    obtain ⟨k, hk, rfl, rfl⟩ := hrel
    by_cases hlt : k < u.size
    · have H1 := Lib.hid (take_snoc u k hlt)
      have hv : valN (u.data.toList.take k) < 72057594037927936 := by
        have h := valN_small (u.data.toList.take k) 7 (by rw [List.length_take]; omega)
        have e : 256 ^ 7 = 72057594037927936 := by decide
        omega
      have hb := u[k].toNat_lt
      generalize hm : valN (u.data.toList.take k) = m at hv
      have HM := Lib.hid hm
      clear hm
      have hor := or_byte m u[k].toNat hv hb
      go_wp2
      go_round
      case rel => exact ⟨k + 1, by omega, by go_num, by rw [H1.out, valN_snoc, HM.out]; go_num⟩
      case measure => simp [intOf]; omega
    · go_wp2
      go_returns
      exact ⟨ret_int (by rw [HU.out, List.take_of_length_le (by simp; omega)]), HR2.out, HO2.out⟩
/-- The number that the next n bytes are; 0, if there are too few. -/
def num (s : ByteArray) (n : Nat) : Nat := valN (tk s n).data.toList
theorem num_lt (s : ByteArray) (n k : Nat) (h : n ≤ k) : num s n < 256 ^ k := valN_small _ k (by rw [Array.length_toList]; exact Nat.le_trans (tk_size s n) h)

theorem rbyte_any (w : World) (p : Option Nat) (s : ByteArray) (b : Bool) (h : Rd w p s b) :
    Calls Try.prog 40 #[ptr p] w fun e w' => e = .returned (.int .u8 (num s 1 : Nat)) ∧ Rd w' p (rest s 1) (brk s b 1) ∧ Foot p w w' := by
  have hlt := num_lt s 1 1 (Nat.le_refl _)
  have HR := Lib.hid (rnum_any w p s b 1 h (by omega))
  clear h
  unfold num at hlt ⊢
  generalize valN (tk s 1).data.toList = v at *
  simp only [Nat.pow_one] at hlt
  go_enter Try.func40, Try.ntmps40
  go_wp2_with fail
  refine HR.out.mono ?_
  rintro e w2 ⟨rfl, hr2, ho2⟩
  have HR2 := Lib.hid hr2
  have HO2 := Lib.hid ho2
  clear hr2 ho2
  go_wp2
  go_returns
  exact ⟨rfl, HR2.out, HO2.out⟩

theorem rcount_any (w : World) (p : Option Nat) (s : ByteArray) (b : Bool) (h : Rd w p s b) :
    Calls Try.prog 65 #[ptr p] w fun e w' => e = .returned (.int .i64 (num s 2 : Nat)) ∧ Rd w' p (rest s 2) (brk s b 2) ∧ Foot p w w' := by
  have hlt := num_lt s 2 2 (Nat.le_refl _)
  have HR := Lib.hid (rnum_any w p s b 2 h (by omega))
  clear h
  unfold num at hlt ⊢
  generalize valN (tk s 2).data.toList = v at *
  have hlt' : v < 65536 := hlt
  go_enter Try.func65, Try.ntmps65
  go_wp2_with fail
  refine HR.out.mono ?_
  rintro e w2 ⟨rfl, hr2, ho2⟩
  have HR2 := Lib.hid hr2
  have HO2 := Lib.hid ho2
  clear hr2 ho2
  go_wp2
  go_returns
  exact ⟨rfl, HR2.out, HO2.out⟩

theorem rnumber_any (w : World) (p : Option Nat) (s : ByteArray) (b : Bool) (h : Rd w p s b) :
    Calls Try.prog 41 #[ptr p] w fun e w' => e = .returned (.int .i64 (IntKind.i64.wrap (num s 8 : Nat))) ∧ Rd w' p (rest s 8) (brk s b 8) ∧ Foot p w w' := by
  have HR := Lib.hid (rnum_any w p s b 8 h (by omega))
  clear h
  unfold num
  generalize valN (tk s 8).data.toList = v at *
  have HX := Lib.hid (IntWalk.i64_left (v : Int))
  go_enter Try.func41, Try.ntmps41
  go_wp2_with fail
  refine HR.out.mono ?_
  rintro e w2 ⟨rfl, hr2, ho2⟩
  have HR2 := Lib.hid hr2
  have HO2 := Lib.hid ho2
  clear hr2 ho2
  go_wp2
  go_returns
  exact ⟨ret_int (by rw [HX.out]), HR2.out, HO2.out⟩

set_option maxHeartbeats 1000000 in
theorem clone_any (s : ByteArray) (w : World) (hlim : s.size ≤ 140737488355328) :
    Calls Try.prog 56 #[.string s] w fun e w' => e = .returned (.string s) ∧ Below w.heap.size w w' := by
  have key : Calls Try.prog 74 #[.string s] w fun e w' => e = .returned (.string s) ∧ Below w.heap.size w w' := by
    by_cases h0 : s.size = 0
    · have hs : s = ⟨#[]⟩ := by
        apply ByteArray.ext
        exact Array.eq_empty_of_size_eq_zero h0
      subst hs
      go_enter Try.func74, Try.ntmps74
      go_wp2
      go_returns
      exact ⟨rfl, Below.refl _ _⟩
    · obtain ⟨i0, hi, hz0, hz1, hz2⟩ := info_parts infoByte
      have hinfo : (Try.prog.info? 5).map (·.size) = some 1 := by rw [hi]; simp [hz1]
      have hco : Try.prog.cellsOf 5 = 1 := by simp [Program.cellsOf, hi, hz1]
      obtain ⟨M, hM⟩ : ∃ M, M = madeCells (Value.int .u8 0).cells (((s.size : Nat) : Int).toNat * i0.size) := ⟨_, rfl⟩
      have hMs : M.size = s.size := by rw [hM, size_madeCells, hz1]; simp
      have hmk : ∀ W : World, (Instr.makeSlice 90 (.int .i64 (s.size : Int)) (.int .i64 (s.size : Int))).run Try.prog W = .ok (.slice (some ⟨W.heap.size, 0, none⟩) s.size s.size) (W.alloc (.cells M 5)) := fun W => by
        have h := run_make (P := Try.prog) W 90 5 i0 (.int .u8 0) Try.underlying90 hi hz0 .i64 .i64 (s.size : Int) (s.size : Int) (by omega) (by omega) (by rw [hz2]; omega) (by omega)
        rw [← hM] at h
        simpa using h
      clear hM
      have hcp := Lib.run_copy_row_string (P := Try.prog) (w.alloc (.cells M 5)) 90 9 3 5 w.heap.size 0 s.size s.size s M 5 Try.underlying90 hinfo (heap_alloc_new w _) (Nat.le_refl _) (by omega)
      obtain ⟨Y, hY⟩ : ∃ Y, Y = (M.toList.take 0 ++ Lib.byteCells s.data.toList ++ M.toList.drop (0 + s.size)).toArray := ⟨_, rfl⟩
      rw [← hY] at hcp
      have hYl : Y.toList = Lib.byteCells s.data.toList := by
        rw [hY, List.toList_toArray, List.take_zero, List.nil_append, List.drop_of_length_le (by rw [Array.length_toList]; omega), List.append_nil]
      have hgY : ((w.alloc (.cells M 5)).setRow w.heap.size Y).heap[w.heap.size]? = some (.cells Y 5 (0, 0)) := setRow_heap _ _ M _ 5 (0, 0) (heap_alloc_new w _)
      have hYs : Y.size = s.size := by rw [← Array.length_toList, hYl, Lib.byteCells_length, ← Lib.size_eq]
      have hne : s.data.toList ≠ [] := fun e => h0 (by rw [Lib.size_eq, e]; rfl)
      have hUS := Lib.run_unsafeString_row (P := Try.prog) ((w.alloc (.cells M 5)).setRow w.heap.size Y) 152 3 9 5 Try.underlying152 hco w.heap.size Y.size (by unfold World.shape?; rw [hgY]) s.data.toList hne (by rw [← Lib.size_eq]; omega) (by rw [← Lib.size_eq]; omega)
        (fun j x hx => Lib.cells_of_row hgY Y.size j _ (by rw [List.take_of_length_le (by rw [Array.length_toList]; exact Nat.le_refl _), hYl]; simp [Lib.byteCells, hx]))
      rw [← Lib.size_eq] at hUS
      clear hY
      go_enter Try.func74, Try.ntmps74
      go_wp2
      go_returns
      have hb1 : Below w.heap.size w (w.alloc (.cells M 5)) := (Below.refl _ w).alloc (Nat.le_refl _) _
      have hb2 : Below w.heap.size (w.alloc (.cells M 5)) ((w.alloc (.cells M 5)).setRow w.heap.size Y) := ⟨rfl, rfl, rfl, by simp, fun k hk => setRow_other _ _ _ _ (by omega)⟩
      exact ⟨rfl, Lib.below_freeze (hb1.trans hb2) (p := ⟨w.heap.size, 0, none⟩) (Nat.le_refl _) _⟩
  have HK := Lib.hid key
  clear key
  go_enter Try.func56, Try.ntmps56
  go_wp2_with fail
  refine HK.out.mono ?_
  rintro e w2 ⟨rfl, hb⟩
  go_wp2
  go_returns
  exact ⟨rfl, hb⟩

theorem rtext_any (w : World) (p : Option Nat) (s : ByteArray) (b : Bool) (h : Rd w p s b) :
    Calls Try.prog 42 #[ptr p] w fun e w' => e = .returned (.string (tk (rest s 2) (num s 2))) ∧ Rd w' p (rest (rest s 2) (num s 2)) (brk (rest s 2) (brk s b 2) (num s 2)) ∧ Foot p w w' := by
  have HR := Lib.hid (rcount_any w p s b h)
  have hlt := num_lt s 2 2 (Nat.le_refl _)
  have hlt' : num s 2 < 65536 := hlt
  clear h hlt
  generalize num s 2 = v at *
  go_enter Try.func42, Try.ntmps42
  go_wp2_with fail
  refine HR.out.mono ?_
  rintro e w2 ⟨rfl, hr2, ho2⟩
  have HR2 := Lib.hid hr2
  have HO2 := Lib.hid ho2
  clear hr2 ho2
  go_wp2_with fail
  refine (take_any _ p _ _ v HR2.out (by omega)).mono ?_
  rintro e w3 ⟨rfl, hr3, ho3⟩
  have HR3 := Lib.hid hr3
  have HO3 := Lib.hid (foot_trans HO2.out ho3)
  clear hr3 ho3
  go_wp2_with fail
  refine (clone_any (tk (rest s 2) v) w3 (Nat.le_trans (tk_size' _ _) HR2.out.small)).mono ?_
  rintro e w4 ⟨rfl, hb4⟩
  have HR4 := Lib.hid (HR3.out.later hb4)
  have HO4 := Lib.hid (foot_after HO3.out hb4)
  clear hb4
  go_wp2
  go_returns
  exact ⟨rfl, HR4.out, HO4.out⟩


/-- What End answers. -/
def endV (s : ByteArray) (b : Bool) : Int := if b then 2 else if s = nil then 0 else 5
theorem end_any (w : World) (p : Option Nat) (s : ByteArray) (b : Bool) (h : Rd w p s b) :
    Calls Try.prog 43 #[ptr p] w fun e w' => e = .returned (.int .i64 (endV s b)) ∧ w = w' := by
  cases p with
  | none =>
    have hb := h.none rfl
    subst hb
    clear h
    unfold ptr endV
    go_enter Try.func43, Try.ntmps43
    go_wp2
    go_returns
    exact ⟨rfl, rfl⟩
  | some g =>
    have hc := h.cells g rfl
    have c0 := hc.cell (j := 0) rfl
    have c1 := hc.cell (j := 1) rfl
    clear hc h
    unfold ptr endV
    cases b
    · by_cases hs : s = nil
      · subst hs
        go_enter Try.func43, Try.ntmps43
        go_wp2
        go_returns
        exact ⟨rfl, rfl⟩
      · have hs2 : s.toList.isEmpty = false := by
          rw [ByteArray.toList_eq]
          cases hl : s.data.toList with
          | nil => exact absurd (ByteArray.ext (Array.ext' hl)) hs
          | cons _ _ => rfl
        rw [if_neg hs]
        go_enter Try.func43, Try.ntmps43
        go_wp2
        go_returns
        exact ⟨rfl, rfl⟩
    · go_enter Try.func43, Try.ntmps43
      go_wp2
      go_returns
      exact ⟨rfl, rfl⟩
theorem tk_nil (n : Nat) : tk nil n = nil := by unfold tk; split <;> simp [extract_nil]
theorem rest_nil (n : Nat) : rest nil n = nil := by unfold rest; split <;> simp [extract_nil]
theorem brk_nil (n : Nat) : brk nil true n = true := by unfold brk; split <;> rfl
theorem num_nil (n : Nat) : num nil n = 0 := by unfold num; rw [tk_nil]; rfl
/-- A broken reader reads nothing. -/
theorem newReader_any (w : World) (s : ByteArray) (hs : s.size ≤ 140737488355328) :
    Calls Try.prog 39 #[.string s] w fun e w' => e = .returned (ptr (some w.heap.size)) ∧ Rd w' (some w.heap.size) s false ∧ Below w.heap.size w w' := by
  have HC := Lib.hid (cells_new w 139 [.string s, .bool false] #[.string s, .bool false] rfl)
  have HB := Lib.hid (below_alloc w (.cells #[.string s, .bool false] 139))
  go_enter Try.func39, Try.ntmps39
  go_wp2
  go_returns
  refine ⟨rfl, ⟨fun g hg => ?_, fun h => (by cases h), fun h => (by cases h), hs⟩, HB.out⟩
  obtain rfl := Option.some.inj hg
  exact HC.out
end Go.Proofs.Ytifcpglifcjdjaa.Wire
