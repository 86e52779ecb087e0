/-
  Layer 14: an envelope's bytes, and what is read of bytes (without memory). Conditions: none.
-/
import Derived.Test.YtifcpglifcjdjaaBsPut
import Derived.Test.YtifcpglifcjdjaaSesMem
import Derived.Test.YtifcpglifcjdjaaWireGet
namespace Go.Proofs.Ytifcpglifcjdjaa.Ses
set_option maxRecDepth 100000
open Go.RowKit Go.Proofs.Ytifcpglifcjdjaa.Mem
open Go.Proofs.Ytifcpglifcjdjaa.Wire (big u64 nums num rest tk brk endV bs I64 head getB getV)

/-- The bytes of an envelope. -/
def bytesE (e : Ev) : List UInt8 := big e.kind.toNat 1 ++ (nums [e.epoch, e.peer, e.seq] ++ (if e.kind = 1 then big e.pay.size 2 ++ e.pay.data.toList else []))
theorem nums3 (a b c : Int) (m : List UInt8) : nums [a, b, c] ++ m = big (u64 a) 8 ++ (big (u64 b) 8 ++ (big (u64 c) 8 ++ m)) := by
  unfold nums
  simp
/-- What Decode reads: an envelope, what is left, whether it broke off. -/
def decA (s : ByteArray) : Ev × ByteArray × Bool :=
  let s1 := rest s 1
  let s2 := rest s1 8
  let s3 := rest s2 8
  let s4 := rest s3 8
  let b4 := brk s3 (brk s2 (brk s1 (brk s false 1) 8) 8) 8
  let ep := IntKind.i64.wrap (num s1 8 : Nat)
  let pe := IntKind.i64.wrap (num s2 8 : Nat)
  let sq := IntKind.i64.wrap (num s3 8 : Nat)
  if num s 1 = 1 then (⟨1, ep, pe, sq, tk (rest s4 2) (num s4 2)⟩, rest (rest s4 2) (num s4 2), brk (rest s4 2) (brk s4 b4 2) (num s4 2))
  else (⟨num s 1, ep, pe, sq, ⟨#[]⟩⟩, s4, b4)
def decV (s : ByteArray) : Option Ev := if endV (decA s).2.1 (decA s).2.2 = 0 ∧ rightE (decA s).1 = true then some (decA s).1 else none
theorem right_kind {e : Ev} (h : rightE e = true) : e.kind = 1 ∧ e.pay.size ≤ 4032 ∨ e.kind = 2 ∧ e.pay = ⟨#[]⟩ := by
  have h1 := of_decide_eq_true h
  rcases h1.2.2.2.2 with h2 | h2
  · exact Or.inl ⟨h2.1, h2.2.2.2⟩
  · refine Or.inr ⟨h2.1, ?_⟩
    apply ByteArray.ext
    exact Array.eq_empty_of_size_eq_zero h2.2.2.2
theorem right_i64 {e : Ev} (h : rightE e = true) : I64 e.epoch ∧ I64 e.peer ∧ I64 e.seq := by
  have h1 := of_decide_eq_true h
  unfold I64
  omega
theorem list_bs (s : ByteArray) : bs s.data.toList = s := Wire.bs_eq s
theorem end_nil : endV (⟨#[]⟩ : ByteArray) false = 0 := rfl
theorem dec_enc {e : Ev} (h : rightE e = true) : decV (bs (bytesE e)) = some e := by
  obtain ⟨i1, i2, i3⟩ := right_i64 h
  have hA : decA (bs (bytesE e)) = (e, ⟨#[]⟩, false) := by
    obtain ⟨kd, ep, pe, sq, pay⟩ := e
    dsimp only at i1 i2 i3
    rcases right_kind h with ⟨rfl, h2⟩ | ⟨rfl, rfl⟩
    · dsimp only at h2
      unfold bytesE
      dsimp only
      rw [if_pos rfl, nums3]
      have hsz : pay.size < 256 ^ 2 := by omega
      unfold decA
      simp only [Wire.num_big 1 1 _ (by decide), Wire.rest_bs _ _ (Wire.big_length _ 1), Wire.rest_bs _ _ (Wire.big_length _ 8), Wire.rest_bs _ _ (Wire.big_length _ 2), Wire.brk_bs _ _ _ (Wire.big_length _ 1), Wire.brk_bs _ _ _ (Wire.big_length _ 8), Wire.brk_bs _ _ _ (Wire.big_length _ 2), Wire.num_u64 i1, Wire.num_u64 i2, Wire.num_u64 i3, Wire.num_big _ 2 _ hsz, show (1 : Int).toNat = 1 from rfl, if_true]
      have e1 : bs pay.data.toList = bs (pay.data.toList ++ []) := by rw [List.append_nil]
      have hl : pay.data.toList.length = pay.size := toList_size pay
      rw [e1, Wire.tk_bs _ _ hl, Wire.rest_bs _ _ hl, Wire.brk_bs _ _ _ hl, list_bs]
      rfl
    · unfold bytesE
      dsimp only
      rw [if_neg (by decide), nums3]
      unfold decA
      simp only [Wire.num_big 2 1 _ (by decide), Wire.rest_bs _ _ (Wire.big_length _ 1), Wire.rest_bs _ _ (Wire.big_length _ 8), Wire.brk_bs _ _ _ (Wire.big_length _ 1), Wire.brk_bs _ _ _ (Wire.big_length _ 8), Wire.num_u64 i1, Wire.num_u64 i2, Wire.num_u64 i3, show (2 : Int).toNat = 2 from rfl]
      rw [if_neg (by decide)]
      rfl
  unfold decV
  rw [hA]
  exact if_pos ⟨end_nil, h⟩
theorem end_zero {s : ByteArray} {b : Bool} (h : endV s b = 0) : b = false ∧ s = ⟨#[]⟩ := by
  unfold endV at h
  split at h
  · cases h
  · rename_i hb
    split at h
    · rename_i hs
      exact ⟨by simpa using hb, hs⟩
    · cases h
theorem dec_back {s : ByteArray} {e : Ev} (h : decV s = some e) : rightE e = true ∧ s = bs (bytesE e) := by
  unfold decV at h
  split at h
  · rename_i hc
    obtain ⟨h1, h2⟩ := hc
    obtain rfl := Option.some.inj h
    refine ⟨h2, ?_⟩
    obtain ⟨hb, hs⟩ := end_zero h1
    have hall : ∀ b4, b4 = brk (rest (rest (rest s 1) 8) 8) (brk (rest (rest s 1) 8) (brk (rest s 1) (brk s false 1) 8) 8) 8 → b4 = false → s = bs ((((big (num s 1) 1 ++ nums [IntKind.i64.wrap (num (rest s 1) 8 : Nat)]) ++ nums [IntKind.i64.wrap (num (rest (rest s 1) 8) 8 : Nat)]) ++ nums [IntKind.i64.wrap (num (rest (rest (rest s 1) 8) 8) 8 : Nat)]) ++ (rest (rest (rest (rest s 1) 8) 8) 8).data.toList) := by
      intro b4 hb4 hk
      rw [hb4] at hk
      obtain ⟨k3, hk⟩ := Wire.brk_false hk
      obtain ⟨k2, hk⟩ := Wire.brk_false hk
      obtain ⟨k1, hk⟩ := Wire.brk_false hk
      obtain ⟨k0, _⟩ := Wire.brk_false hk
      exact Wire.put_next (Wire.put_next (Wire.put_next (Wire.num_put k0) (Wire.num_put8 k1)) (Wire.num_put8 k2)) (Wire.num_put8 k3)
    unfold decA at hb hs h2 ⊢
    dsimp only at hb hs h2 ⊢
    by_cases hk : num s 1 = 1
    · rw [if_pos hk] at hb hs h2 ⊢
      dsimp only at hb hs h2 ⊢
      obtain ⟨k5, hb⟩ := Wire.brk_false hb
      obtain ⟨k4, hb⟩ := Wire.brk_false hb
      have c := hall _ rfl hb
      have c2 := Wire.put_next (Wire.put_next c (Wire.num_put k4)) (Wire.tk_rest k5)
      rw [hs] at c2
      have hl := Wire.tk_len k5
      rw [toList_size] at hl
      unfold bytesE
      dsimp only
      rw [if_pos rfl, hl]
      refine c2.trans (congrArg bs ?_)
      rw [hk]
      unfold nums
      simp
    · rw [if_neg hk] at hb hs h2 ⊢
      dsimp only at hb hs h2 ⊢
      have c := hall _ rfl hb
      rw [hs] at c
      have hk2 : ((num s 1 : Nat) : Int) ≠ 1 := by omega
      unfold bytesE
      dsimp only
      rw [if_neg hk2, Int.toNat_natCast]
      refine c.trans (congrArg bs ?_)
      unfold nums
      simp
  · cases h
/-- What the document reads of bytes. -/
def readE (s : ByteArray) : Ev :=
  ⟨(num s 1 : Nat), IntKind.i64.wrap (head (s.extract 1 s.size) 8 : Nat), IntKind.i64.wrap (head (s.extract 9 s.size) 8 : Nat), IntKind.i64.wrap (head (s.extract 17 s.size) 8 : Nat),
    if num s 1 = 1 then (s.extract 25 s.size).extract 2 (2 + head (s.extract 25 s.size) 2) else ⟨#[]⟩⟩
def textOk (s : ByteArray) : Bool := decide (2 ≤ (s.extract 25 s.size).size ∧ 2 + head (s.extract 25 s.size) 2 ≤ (s.extract 25 s.size).size)
def readM (s : ByteArray) : Option Ev :=
  if s.size < 25 then none else
  if num s 1 = 1 ∧ textOk s = false then none else
  if rightE (readE s) = true ∧ bs (bytesE (readE s)) = s then some (readE s) else none
theorem read_back {s : ByteArray} {e : Ev} (h : readM s = some e) : rightE e = true ∧ s = bs (bytesE e) := by
  unfold readM at h
  split at h
  · cases h
  · split at h
    · cases h
    · split at h
      · rename_i hc
        obtain rfl := Option.some.inj h
        exact ⟨hc.1, hc.2.symm⟩
      · cases h
theorem drop_bs (l m : List UInt8) (n : Nat) (h : l.length = n) : (bs (l ++ m)).extract n (bs (l ++ m)).size = bs m := by
  subst h
  exact Wire.bs_right l m
theorem head_big (k n : Nat) (m : List UInt8) (h : k < 256 ^ n) : head (bs (big k n ++ m)) n = k := by
  unfold head
  have h1 := Wire.bs_left (big k n) m
  rw [Wire.big_length] at h1
  rw [h1, Wire.bs_list, Wire.valN_big k n h]
theorem head_u64 {n : Int} (h : I64 n) (m : List UInt8) : IntKind.i64.wrap (head (bs (big (u64 n) 8 ++ m)) 8 : Nat) = n := by
  rw [head_big _ _ _ (Nat.lt_of_lt_of_eq (Wire.u64_lt n) (by decide)), Wire.wrap_u64 h]
theorem read_enc {e : Ev} (h : rightE e = true) : readM (bs (bytesE e)) = some e := by
  obtain ⟨i1, i2, i3⟩ := right_i64 h
  obtain ⟨m, hm⟩ : ∃ m, (if e.kind = 1 then big e.pay.size 2 ++ e.pay.data.toList else []) = m := ⟨_, rfl⟩
  obtain ⟨kk, hkk⟩ : ∃ kk, e.kind.toNat = kk := ⟨_, rfl⟩
  have hk2 : kk = 1 ∨ kk = 2 := by
    rcases right_kind h with ⟨h2, _⟩ | ⟨h2, _⟩ <;> omega
  have hS : bytesE e = big kk 1 ++ (big (u64 e.epoch) 8 ++ (big (u64 e.peer) 8 ++ (big (u64 e.seq) 8 ++ m))) := by
    unfold bytesE
    rw [hm, hkk, nums3]
  have hsz : (bytesE e).length = 25 + m.length := by
    rw [hS]
    simp only [List.length_append, Wire.big_length]
    omega
  obtain ⟨s, hs⟩ : ∃ s, bs (bytesE e) = s := ⟨_, rfl⟩
  have hss : s.size = 25 + m.length := by rw [← hs, Wire.bs_size, hsz]
  have d1 : s.extract 1 s.size = bs (big (u64 e.epoch) 8 ++ (big (u64 e.peer) 8 ++ (big (u64 e.seq) 8 ++ m))) := by
    rw [← hs, hS]
    exact drop_bs _ _ 1 (Wire.big_length _ 1)
  have d9 : s.extract 9 s.size = bs (big (u64 e.peer) 8 ++ (big (u64 e.seq) 8 ++ m)) := by
    rw [← hs, hS, ← List.append_assoc]
    exact drop_bs _ _ 9 (by rw [List.length_append, Wire.big_length, Wire.big_length])
  have d17 : s.extract 17 s.size = bs (big (u64 e.seq) 8 ++ m) := by
    rw [← hs, hS, ← List.append_assoc, ← List.append_assoc]
    exact drop_bs _ _ 17 (by rw [List.length_append, List.length_append, Wire.big_length, Wire.big_length, Wire.big_length])
  have d25 : s.extract 25 s.size = bs m := by
    rw [← hs, hS, ← List.append_assoc, ← List.append_assoc, ← List.append_assoc]
    exact drop_bs _ _ 25 (by rw [List.length_append, List.length_append, List.length_append, Wire.big_length, Wire.big_length, Wire.big_length, Wire.big_length])
  have dn : num s 1 = kk := by
    rw [← hs, hS]
    exact Wire.num_big kk 1 _ (by omega)
  have hE : readE s = e ∧ (num s 1 = 1 → textOk s = true) := by
    unfold readE textOk
    rw [d1, d9, d17, d25, dn, head_u64 i1, head_u64 i2, head_u64 i3]
    rcases right_kind h with ⟨h2, h3⟩ | ⟨h2, h3⟩
    · have hk1 : kk = 1 := by omega
      rw [if_pos h2] at hm
      subst hm
      have hp : e.pay.size < 256 ^ 2 := by omega
      rw [if_pos hk1, head_big _ _ _ hp]
      refine ⟨?_, fun _ => ?_⟩
      · obtain ⟨kd, ep, pe, sq, pay⟩ := e
        dsimp only at h2 ⊢
        congr 1
        · omega
        · apply Wire.ba_ext
          rw [Wire.ext_list, Wire.bs_list, List.take_of_length_le (by rw [List.length_append, Wire.big_length, toList_size]; exact Nat.le_refl _)]
          rw [List.drop_left' (Wire.big_length _ 2)]
      · rw [Wire.bs_size, List.length_append, Wire.big_length, toList_size]
        exact decide_eq_true ⟨by omega, Nat.le_refl _⟩
    · have hk1 : ¬ kk = 1 := by omega
      rw [if_neg hk1]
      refine ⟨?_, fun e1 => absurd e1 hk1⟩
      obtain ⟨kd, ep, pe, sq, pay⟩ := e
      dsimp only at h2 h3 ⊢
      subst h3
      congr 1
      omega
  unfold readM
  rw [hs, if_neg (by omega), if_neg (by
    rintro ⟨q1, q2⟩
    rw [hE.2 q1] at q2
    cases q2), hE.1, if_pos ⟨h, hs⟩]
theorem dec_read (s : ByteArray) : decV s = readM s := by
  cases h : decV s with
  | some e =>
    obtain ⟨h1, h2⟩ := dec_back h
    rw [h2, read_enc h1]
  | none =>
    cases h' : readM s with
    | none => rfl
    | some e =>
      obtain ⟨h1, h2⟩ := read_back h'
      rw [h2, dec_enc h1] at h
      cases h
end Go.Proofs.Ytifcpglifcjdjaa.Ses
