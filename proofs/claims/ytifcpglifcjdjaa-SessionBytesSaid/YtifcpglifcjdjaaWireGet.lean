/-
  What the document's own answer of layer 2 reads of bytes: Get. Conditions: none.
-/
import Derived.Test.YtifcpglifcjdjaaWireRef
namespace Go.Proofs.Ytifcpglifcjdjaa.Wire
open Go.RowKit Go.Proofs.Ytifcpglifcjdjaa.Mem

/-- How many bytes a kind has at least. -/
def sz : Nat → Nat
  | 0 => 1 | 1 => 1 | 2 => 2 | 3 => 8 | _ => 2
/-- The number that the first bytes of a text are. -/
def head (s : ByteArray) (n : Nat) : Nat := valN (s.extract 0 n).data.toList
/-- The thing of a kind with which a text begins, and how many bytes it has; none: there is none. -/
def getB (k : Nat) (s : ByteArray) : Option (Th × Nat) :=
  if s.size < sz k then none
  else if k = 1 ∧ 1 < head s 1 then none
  else if k < 4 then some (⟨k, IntKind.i64.wrap (head s (sz k) : Nat), ⟨#[]⟩⟩, sz k)
  else if s.size < 2 + head s 2 then none
  else some (⟨4, 0, s.extract 2 (2 + head s 2)⟩, 2 + head s 2)
/-- What Get answers. -/
def getV (k : Nat) (s : ByteArray) : Value := match getB k s with
  | some (t, n) => .tuple #[t.val, .int .i64 n]
  | none => .tuple #[th0.val, .int .i64 0]

set_option maxHeartbeats 1000000 in
theorem get_short (k : Nat) (s : ByteArray) (w : World) (hk : k ≤ 4) (hs : s.size ≤ 140737488355328) (h : s.size < sz k) :
    Calls Try.prog 45 #[.int .i64 (k : Int), .string s] w fun e w' => e = .returned (.tuple #[th0.val, .int .i64 0]) ∧ Below w.heap.size w w' := by
  rcases (show k = 0 ∨ k = 1 ∨ k = 2 ∨ k = 3 ∨ k = 4 by omega) with rfl | rfl | rfl | rfl | rfl <;> simp only [sz] at h
  all_goals
    go_enter Try.func45, Try.ntmps45
    go_wp2
    refine bodyPost_ret (v := .tuple #[th0.val, .int .i64 0]) (by simp [results, Try.results45, go_sem, th0, Th.val]) rfl ⟨rfl, ?_⟩
    go_grown

theorem extract_size (s : ByteArray) (n : Nat) (h : n ≤ s.size) : (s.extract 0 n).size = n := by
  rw [ByteArray.size_extract]; omega
theorem head_lt (s : ByteArray) (n : Nat) (h : n ≤ s.size) : head s n < 256 ^ n := by
  have := valN_lt (s.extract 0 n).data.toList
  rw [Array.length_toList, show (s.extract 0 n).data.size = (s.extract 0 n).size from rfl, extract_size s n h] at this
  exact this

set_option maxHeartbeats 2000000 in
theorem get_num (k : Nat) (s : ByteArray) (w : World) (hk : k < 4) (hs : s.size ≤ 140737488355328) (h : sz k ≤ s.size) (h1 : ¬ (k = 1 ∧ 1 < head s 1)) :
    Calls Try.prog 45 #[.int .i64 (k : Int), .string s] w fun e w' => e = .returned (.tuple #[(⟨k, IntKind.i64.wrap (head s (sz k) : Nat), ⟨#[]⟩⟩ : Th).val, .int .i64 (sz k : Nat)]) ∧ Below w.heap.size w w' := by
  have hv := value_any (s.extract 0 (sz k))
  have hsz := extract_size s (sz k) h
  have hlt := head_lt s (sz k) h
  unfold head at hlt h1 ⊢
  rcases (show k = 0 ∨ k = 1 ∨ k = 2 ∨ k = 3 by omega) with rfl | rfl | rfl | rfl <;> simp only [sz] at h hv hsz hlt ⊢
  · generalize valN (s.extract 0 1).data.toList = v at hv hlt h1 ⊢
    have HV := Lib.hid (hv · (by omega))
    have hb : v < 256 := by
      have e : 256 ^ 1 = 256 := by decide
      omega
    have HX := Lib.hid (show IntKind.i64.wrap (v : Int) = (v : Int) from IntWalk.i64_in _ (by omega))
    clear hv hlt h1 hsz
    go_enter Try.func45, Try.ntmps45
    go_wp2_with fail
    refine (HV.out _).mono ?_
    rintro e w1 ⟨rfl, rfl⟩
    go_wp2
    refine bodyPost_ret (v := .tuple #[.agg #[.int .i64 0, .int .i64 (v : Int), .string ⟨#[]⟩], .int .i64 1]) (by simp [results, Try.results45, go_sem]) rfl ⟨ret_val ?_, ?_⟩
    · unfold Th.val
      rw [HX.out]
      rfl
    · go_grown
  · generalize valN (s.extract 0 1).data.toList = v at hv hlt h1 ⊢
    have HV := Lib.hid (hv · (by omega))
    have hb : v < 256 := by
      have e : 256 ^ 1 = 256 := by decide
      omega
    have HX := Lib.hid (show IntKind.i64.wrap (v : Int) = (v : Int) from IntWalk.i64_in _ (by omega))
    have h1' : v ≤ 1 := by omega
    clear hv hlt h1 hsz
    go_enter Try.func45, Try.ntmps45
    go_wp2_with fail
    refine (HV.out _).mono ?_
    rintro e w1 ⟨rfl, rfl⟩
    go_wp2
    refine bodyPost_ret (v := .tuple #[.agg #[.int .i64 1, .int .i64 (v : Int), .string ⟨#[]⟩], .int .i64 1]) (by simp [results, Try.results45, go_sem]) rfl ⟨ret_val ?_, ?_⟩
    · unfold Th.val
      rw [HX.out]
      rfl
    · go_grown
  · generalize valN (s.extract 0 2).data.toList = v at hv hlt h1 ⊢
    have HV := Lib.hid (hv · (by omega))
    have hb : v < 65536 := by
      have e : 256 ^ 2 = 65536 := by decide
      omega
    have HX := Lib.hid (show IntKind.i64.wrap (v : Int) = (v : Int) from IntWalk.i64_in _ (by omega))
    clear hv hlt h1 hsz
    go_enter Try.func45, Try.ntmps45
    go_wp2_with fail
    refine (HV.out _).mono ?_
    rintro e w1 ⟨rfl, rfl⟩
    go_wp2
    refine bodyPost_ret (v := .tuple #[.agg #[.int .i64 2, .int .i64 (v : Int), .string ⟨#[]⟩], .int .i64 2]) (by simp [results, Try.results45, go_sem]) rfl ⟨ret_val ?_, ?_⟩
    · unfold Th.val
      rw [HX.out]
      rfl
    · go_grown
  · generalize valN (s.extract 0 8).data.toList = v at hv hlt h1 ⊢
    have HV := Lib.hid (hv · (by omega))
    have hb : v < 18446744073709551616 := by
      have e : 256 ^ 8 = 18446744073709551616 := by decide
      omega
    have HX := Lib.hid (IntWalk.i64_left (v : Int))
    clear hv hlt h1 hsz
    go_enter Try.func45, Try.ntmps45
    go_wp2_with fail
    refine (HV.out _).mono ?_
    rintro e w1 ⟨rfl, rfl⟩
    go_wp2
    refine bodyPost_ret (v := .tuple #[.agg #[.int .i64 3, .int .i64 (wrap64 (v : Int)), .string ⟨#[]⟩], .int .i64 8]) (by simp [results, Try.results45, go_sem]) rfl ⟨ret_val ?_, ?_⟩
    · unfold Th.val
      rw [HX.out]
      rfl
    · go_grown

set_option maxHeartbeats 2000000 in
theorem get_bad (s : ByteArray) (w : World) (hs : s.size ≤ 140737488355328) (h : 1 ≤ s.size) (h1 : 1 < head s 1) :
    Calls Try.prog 45 #[.int .i64 1, .string s] w fun e w' => e = .returned (.tuple #[th0.val, .int .i64 0]) ∧ Below w.heap.size w w' := by
  have hv := value_any (s.extract 0 1)
  have hsz := extract_size s 1 h
  have hlt := head_lt s 1 h
  unfold head at hlt h1
  generalize valN (s.extract 0 1).data.toList = v at hv hlt h1
  have HV := Lib.hid (hv · (by omega))
  have hb : v < 256 := by
    have e : 256 ^ 1 = 256 := by decide
    omega
  clear hv hlt hsz
  go_enter Try.func45, Try.ntmps45
  go_wp2_with fail
  refine (HV.out _).mono ?_
  rintro e w1 ⟨rfl, rfl⟩
  go_wp2
  refine bodyPost_ret (v := .tuple #[th0.val, .int .i64 0]) (by simp [results, Try.results45, go_sem, th0, Th.val]) rfl ⟨rfl, ?_⟩
  go_grown

set_option maxHeartbeats 2000000 in
theorem get_text (s : ByteArray) (w : World) (hs : s.size ≤ 140737488355328) (h : 2 ≤ s.size) :
    Calls Try.prog 45 #[.int .i64 4, .string s] w fun e w' => e = .returned (if s.size < 2 + head s 2 then .tuple #[th0.val, .int .i64 0] else .tuple #[(⟨4, 0, s.extract 2 (2 + head s 2)⟩ : Th).val, .int .i64 (2 + head s 2 : Nat)]) ∧ Below w.heap.size w w' := by
  have hv := value_any (s.extract 0 2)
  have hsz := extract_size s 2 h
  have hlt := head_lt s 2 h
  unfold head at hlt ⊢
  generalize valN (s.extract 0 2).data.toList = v at hv hlt ⊢
  have HV := Lib.hid (hv · (by omega))
  have hb : v < 65536 := by
    have e : 256 ^ 2 = 65536 := by decide
    omega
  clear hv hlt hsz
  by_cases hl : s.size < 2 + v
  · rw [if_pos hl]
    go_enter Try.func45, Try.ntmps45
    go_wp2_with fail
    refine (HV.out _).mono ?_
    rintro e w1 ⟨rfl, rfl⟩
    go_wp2
    refine bodyPost_ret (v := .tuple #[th0.val, .int .i64 0]) (by simp [results, Try.results45, go_sem, th0, Th.val]) rfl ⟨rfl, ?_⟩
    go_grown
  · rw [if_neg hl]
    go_enter Try.func45, Try.ntmps45
    go_wp2_with fail
    refine (HV.out _).mono ?_
    rintro e w1 ⟨rfl, rfl⟩
    go_wp2
    refine bodyPost_ret (v := .tuple #[.agg #[.int .i64 4, .int .i64 0, .string (s.extract 2 (2 + v))], .int .i64 (2 + (v : Int))]) (by simp [results, Try.results45, go_sem]) rfl ⟨ret_val ?_, ?_⟩
    · unfold Th.val
      rw [Int.natCast_add]
      rfl
    · go_grown

theorem get_any (k : Nat) (s : ByteArray) (w : World) (hk : k ≤ 4) (hs : s.size ≤ 140737488355328) :
    Calls Try.prog 45 #[.int .i64 (k : Int), .string s] w fun e w' => e = .returned (getV k s) ∧ Below w.heap.size w w' := by
  by_cases h : s.size < sz k
  · have e : getV k s = .tuple #[th0.val, .int .i64 0] := by unfold getV getB; rw [if_pos h]
    rw [e]
    exact get_short k s w hk hs h
  · by_cases h1 : k = 1 ∧ 1 < head s 1
    · have e : getV k s = .tuple #[th0.val, .int .i64 0] := by unfold getV getB; rw [if_neg h, if_pos h1]
      obtain ⟨rfl, h1⟩ := h1
      rw [e]
      exact get_bad s w hs (by simp only [sz] at h; omega) h1
    · by_cases h4 : k < 4
      · have e : getV k s = .tuple #[(⟨k, IntKind.i64.wrap (head s (sz k) : Nat), ⟨#[]⟩⟩ : Th).val, .int .i64 (sz k : Nat)] := by unfold getV getB; rw [if_neg h, if_neg h1, if_pos h4]
        rw [e]
        exact get_num k s w h4 hs (by omega) h1
      · obtain rfl : k = 4 := by omega
        have h2 : 2 ≤ s.size := by simp only [sz] at h; omega
        have e : getV 4 s = if s.size < 2 + head s 2 then .tuple #[th0.val, .int .i64 0] else .tuple #[(⟨4, 0, s.extract 2 (2 + head s 2)⟩ : Th).val, .int .i64 (2 + head s 2 : Nat)] := by
          unfold getV getB
          rw [if_neg h, if_neg h1, if_neg h4]
          by_cases hl : s.size < 2 + head s 2
          · rw [if_pos hl, if_pos hl]
          · rw [if_neg hl, if_neg hl]
        rw [e]
        exact get_text s w hs h2
end Go.Proofs.Ytifcpglifcjdjaa.Wire
