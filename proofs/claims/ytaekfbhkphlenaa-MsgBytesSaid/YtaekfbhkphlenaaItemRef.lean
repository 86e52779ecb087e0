/-
  Layer 6: the document's own bytes of names, items and nodes. Conditions: none.
-/
import Derived.Test.YtaekfbhkphlenaaItemPut2
namespace Go.Proofs.Ytaekfbhkphlenaa.Item
open Go.RowKit Go.Proofs.Ytaekfbhkphlenaa.Mem Go.Proofs.Ytaekfbhkphlenaa.Wire

theorem num_any (n : Int) (w : World) : Calls Try.prog 59 #[.int .i64 n] w fun e w' => e = .returned (.string (bs (big (u64 n) 8))) ∧ Below w.heap.size w w' := by
  have HU := Lib.hid (u64_cast n)
  go_enter Try.func59, Try.ntmps59
  go_wp2_with fail
  rw [IntKind.wrap_u64, ← HU.out]
  refine (big_any (u64 n) 8 w (u64_lt n) (by omega)).mono ?_
  rintro e w1 ⟨rfl, hb⟩
  have HB := Lib.hid hb
  clear hb
  go_wp2_with fail
  go_returns
  exact ⟨rfl, HB.out⟩
theorem big_bit0 (w : World) : Calls Try.prog 33 #[.int .u64 0, .int .i64 1] w fun e w' => e = .returned (.string (bs [0])) ∧ Below w.heap.size w w' := big_any 0 1 w (by omega) (by omega)
theorem big_bit1 (w : World) : Calls Try.prog 33 #[.int .u64 1, .int .i64 1] w fun e w' => e = .returned (.string (bs [1])) ∧ Below w.heap.size w w' := big_any 1 1 w (by omega) (by omega)
def refTid (a b c : Int) (s : Nat) : Nat → Value → World → Prop
  | 0, v, _ => v = .pointer (some ⟨s, 0, none⟩)
  | 1, v, _ => v = .int .i64 a
  | 2, v, _ => v = .string (bs (big (u64 a) 8))
  | 3, v, _ => v = .pointer (some ⟨s, 1, none⟩)
  | 4, v, _ => v = .int .i64 b
  | 5, v, _ => v = .string (bs (big (u64 b) 8))
  | 6, v, _ => v = .string (bs (big (u64 a) 8 ++ big (u64 b) 8))
  | 7, v, _ => v = .pointer (some ⟨s, 2, none⟩)
  | 8, v, _ => v = .int .i64 c
  | 9, v, _ => v = .string (bs (big (u64 c) 8))
  | 10, v, _ => v = .string (bs (big (u64 a) 8 ++ big (u64 b) 8 ++ big (u64 c) 8))
  | 11, v, _ => v = .string (bs (big (u64 a) 8 ++ big (u64 b) 8 ++ big (u64 c) 8))
  | _, _, _ => True
theorem refTid_later {a b c : Int} {s : Nat} {j : Nat} {v : Value} {w w' : World} (_hb : Below w.heap.size w w') (h : refTid a b c s j v w) : refTid a b c s j v w' := by
  match j, h with
  | 0, h | 1, h | 2, h | 3, h | 4, h | 5, h | 6, h | 7, h | 8, h | 9, h | 10, h | 11, h => exact h
  | _ + 12, _ => exact trivial
set_option maxHeartbeats 400000 in
theorem refTid_any (t : Tid) (w : World) : Calls Try.prog 35 #[t.val] w fun e w' => e = .returned (.string (bs (tidB t))) ∧ Below w.heap.size w w' := by
  obtain ⟨a, b, c⟩ := t
  have HV : Hid (tidB ⟨a, b, c⟩ = big (u64 a) 8 ++ big (u64 b) 8 ++ big (u64 c) 8) := Lib.hid (by unfold tidB nums; simp)
  obtain ⟨w2, hw2⟩ : ∃ w2, w2 = w.alloc (.cells #[.int .i64 a, .int .i64 b, .int .i64 c] 23) := ⟨_, rfl⟩
  have hb2 := below_alloc w (.cells #[.int .i64 a, .int .i64 b, .int .i64 c] 23)
  have hca := cells_new w 23 [.int .i64 a, .int .i64 b, .int .i64 c] #[.int .i64 a, .int .i64 b, .int .i64 c] rfl
  rw [← hw2] at hb2 hca
  have HB2 := Lib.hid hb2
  have HA : Hid (∀ wi, Below w2.heap.size w2 wi → ∀ j u, [Value.int .i64 a, .int .i64 b, .int .i64 c][j]? = some u → wi.cell? ⟨w.heap.size, j, none⟩ = some u) := Lib.hid fun wi hb j u hu => (hca.later hb).cell hu
  clear hb2 hca
  unfold Tid.val
  go_enter Try.func35, Try.ntmps35
  go_wp2_with fail
  rw [← hw2]
  clear hw2
  refine Reg.region_heavy (by kernel_rfl) 11 [11] (refTid a b c w.heap.size) (fun a => Below w2.heap.size w2 a) (fun a => Below w2.heap.size w2 a) (fun V => [(some 3, V 0), (some 4, V 1), (some 5, V 2), (some 6, V 3), (some 7, V 4), (some 8, V 5), (some 9, V 6), (some 10, V 7), (some 11, V 8), (some 12, V 9), (some 13, V 10), (some 2, V 11)]) (by kernel_rfl) (by kernel_rfl) (by kernel_rfl) (fun V => rfl) ?_ ?_ ?_
  · exact (Below.refl _ _).drew
  · intro i o ho
    have hi : i < 12 := (Array.getElem?_eq_some_iff.1 ho).1
    rcases i with _ | _ | _ | _ | _ | _ | _ | _ | _ | _ | _ | _ | i
    · obtain rfl := Option.some.inj ho
      intro ρ wi hE hI hs hd
      try dsimp only at hI
      have e1 : ρ (.tmp 1) = .pointer (some ⟨w.heap.size, 0, none⟩) := hs 1 (by kernel_rfl)
      exact Reg.Gives.value (v := .pointer (some ⟨w.heap.size, 0, none⟩)) (w' := wi) (by go_simp) (Reg.OwedH.same hI rfl)
    · obtain rfl := Option.some.inj ho
      intro ρ wi hE hI hs hd
      try dsimp only at hI
      obtain ⟨u3, g3, e3⟩ := hd 0 3 (by kernel_rfl) (by kernel_rfl) (by show _ < 14; decide)
      obtain rfl : u3 = .pointer (some ⟨w.heap.size, 0, none⟩) := g3
      have hx := HA.out wi hI 0 _ rfl
      exact Reg.Gives.value (v := .int .i64 a) (w' := wi) (by go_simp) (Reg.OwedH.same hI rfl)
    · obtain rfl := Option.some.inj ho
      intro ρ wi hE hI hs hd
      try dsimp only at hI
      obtain ⟨u4, g4, e4⟩ := hd 1 4 (by kernel_rfl) (by kernel_rfl) (by show _ < 14; decide)
      obtain rfl : u4 = .int .i64 a := g4
      have hf := hE.func
      refine Reg.Gives.call (f := 59) (args := #[.int .i64 a]) (w' := wi) (by go_simp) ?_
      refine (num_any a wi).mono ?_
      rintro e w'' ⟨rfl, hbb⟩
      exact ⟨_, rfl, ⟨rfl, hI.trans (hbb.mono hI.size), fun j u _ _ h => refTid_later hbb h⟩⟩
    · obtain rfl := Option.some.inj ho
      intro ρ wi hE hI hs hd
      try dsimp only at hI
      have e1 : ρ (.tmp 1) = .pointer (some ⟨w.heap.size, 0, none⟩) := hs 1 (by kernel_rfl)
      exact Reg.Gives.value (v := .pointer (some ⟨w.heap.size, 1, none⟩)) (w' := wi) (by go_simp) (Reg.OwedH.same hI rfl)
    · obtain rfl := Option.some.inj ho
      intro ρ wi hE hI hs hd
      try dsimp only at hI
      obtain ⟨u6, g6, e6⟩ := hd 3 6 (by kernel_rfl) (by kernel_rfl) (by show _ < 14; decide)
      obtain rfl : u6 = .pointer (some ⟨w.heap.size, 1, none⟩) := g6
      have hx := HA.out wi hI 1 _ rfl
      exact Reg.Gives.value (v := .int .i64 b) (w' := wi) (by go_simp) (Reg.OwedH.same hI rfl)
    · obtain rfl := Option.some.inj ho
      intro ρ wi hE hI hs hd
      try dsimp only at hI
      obtain ⟨u7, g7, e7⟩ := hd 4 7 (by kernel_rfl) (by kernel_rfl) (by show _ < 14; decide)
      obtain rfl : u7 = .int .i64 b := g7
      have hf := hE.func
      refine Reg.Gives.call (f := 59) (args := #[.int .i64 b]) (w' := wi) (by go_simp) ?_
      refine (num_any b wi).mono ?_
      rintro e w'' ⟨rfl, hbb⟩
      exact ⟨_, rfl, ⟨rfl, hI.trans (hbb.mono hI.size), fun j u _ _ h => refTid_later hbb h⟩⟩
    · obtain rfl := Option.some.inj ho
      intro ρ wi hE hI hs hd
      try dsimp only at hI
      obtain ⟨u5, g5, e5⟩ := hd 2 5 (by kernel_rfl) (by kernel_rfl) (by show _ < 14; decide)
      obtain rfl : u5 = .string (bs (big (u64 a) 8)) := g5
      obtain ⟨u8, g8, e8⟩ := hd 5 8 (by kernel_rfl) (by kernel_rfl) (by show _ < 14; decide)
      obtain rfl : u8 = .string (bs (big (u64 b) 8)) := g8
      have hap := bs_app (big (u64 a) 8) (big (u64 b) 8)
      have hl : (bs (big (u64 a) 8)).size + (bs (big (u64 b) 8)).size ≤ 9223372036854775807 := by simp [bs_size, big_length]
      exact Reg.Gives.value (v := .string (bs (big (u64 a) 8 ++ big (u64 b) 8))) (w' := wi) (by go_simp) (Reg.OwedH.same hI rfl)
    · obtain rfl := Option.some.inj ho
      intro ρ wi hE hI hs hd
      try dsimp only at hI
      have e1 : ρ (.tmp 1) = .pointer (some ⟨w.heap.size, 0, none⟩) := hs 1 (by kernel_rfl)
      exact Reg.Gives.value (v := .pointer (some ⟨w.heap.size, 2, none⟩)) (w' := wi) (by go_simp) (Reg.OwedH.same hI rfl)
    · obtain rfl := Option.some.inj ho
      intro ρ wi hE hI hs hd
      try dsimp only at hI
      obtain ⟨u10, g10, e10⟩ := hd 7 10 (by kernel_rfl) (by kernel_rfl) (by show _ < 14; decide)
      obtain rfl : u10 = .pointer (some ⟨w.heap.size, 2, none⟩) := g10
      have hx := HA.out wi hI 2 _ rfl
      exact Reg.Gives.value (v := .int .i64 c) (w' := wi) (by go_simp) (Reg.OwedH.same hI rfl)
    · obtain rfl := Option.some.inj ho
      intro ρ wi hE hI hs hd
      try dsimp only at hI
      obtain ⟨u11, g11, e11⟩ := hd 8 11 (by kernel_rfl) (by kernel_rfl) (by show _ < 14; decide)
      obtain rfl : u11 = .int .i64 c := g11
      have hf := hE.func
      refine Reg.Gives.call (f := 59) (args := #[.int .i64 c]) (w' := wi) (by go_simp) ?_
      refine (num_any c wi).mono ?_
      rintro e w'' ⟨rfl, hbb⟩
      exact ⟨_, rfl, ⟨rfl, hI.trans (hbb.mono hI.size), fun j u _ _ h => refTid_later hbb h⟩⟩
    · obtain rfl := Option.some.inj ho
      intro ρ wi hE hI hs hd
      try dsimp only at hI
      obtain ⟨u9, g9, e9⟩ := hd 6 9 (by kernel_rfl) (by kernel_rfl) (by show _ < 14; decide)
      obtain rfl : u9 = .string (bs (big (u64 a) 8 ++ big (u64 b) 8)) := g9
      obtain ⟨u12, g12, e12⟩ := hd 9 12 (by kernel_rfl) (by kernel_rfl) (by show _ < 14; decide)
      obtain rfl : u12 = .string (bs (big (u64 c) 8)) := g12
      have hap := bs_app (big (u64 a) 8 ++ big (u64 b) 8) (big (u64 c) 8)
      have hl : (bs (big (u64 a) 8 ++ big (u64 b) 8)).size + (bs (big (u64 c) 8)).size ≤ 9223372036854775807 := by simp [bs_size, big_length]
      exact Reg.Gives.value (v := .string (bs (big (u64 a) 8 ++ big (u64 b) 8 ++ big (u64 c) 8))) (w' := wi) (by go_simp) (Reg.OwedH.same hI rfl)
    · obtain rfl := Option.some.inj ho
      intro ρ wi hE hI hs hd
      try dsimp only at hI
      obtain ⟨u13, g13, e13⟩ := hd 10 13 (by kernel_rfl) (by kernel_rfl) (by show _ < 14; decide)
      obtain rfl : u13 = .string (bs (big (u64 a) 8 ++ big (u64 b) 8 ++ big (u64 c) 8)) := g13
      exact Reg.Gives.value (v := .string (bs (big (u64 a) 8 ++ big (u64 b) 8 ++ big (u64 c) 8))) (w' := wi) (by go_simp) (Reg.OwedH.same hI rfl)
    · omega
  · intro V wz hV hI
    have hV11 : V 11 = .string (bs (big (u64 a) 8 ++ big (u64 b) 8 ++ big (u64 c) 8)) := hV 11 (by decide) rfl
    simp only [Reg.putsO, List.foldl_cons, List.foldl_nil, Act.put, List.setIfInBounds_toArray, List.set_cons_succ, List.set_cons_zero, hV11]
    replace hI : (fun a => Below w2.heap.size w2 a) wz := hI
    clear hV hV11
    go_wp2_with fail
    go_returns
    exact ⟨ret_val (by rw [HV.out]; rfl), HB2.out.trans (hI.mono HB2.out.size)⟩
set_option maxHeartbeats 400000 in
theorem refNodes_any (A : Option Addr) (l : List Int) (cap : Nat) (w : World) (hs : Nums w A l) (hm : l.length ≤ 1000) :
    Calls Try.prog 37 #[.slice A l.length cap] w fun e w' => e = .returned (.string (bs (nodesB l))) ∧ Below w.heap.size w w' := by
  have HS := Lib.hid hs
  have HU : Hid (((u64 (l.length : Int) : Nat) : Int) = (l.length : Int)) := Lib.hid (by rw [u64_nat _ (by omega)])
  have HUN := Lib.hid (u64_nat l.length (by omega))
  clear hs
  go_enter Try.func37, Try.ntmps37
  go_wp2_with fail
  refine (big_any l.length 2 w (by omega) (by omega)).mono ?_
  rintro e w1 ⟨rfl, hb⟩
  have HB := Lib.hid hb
  clear hb
  go_wp2_with fail
  go_loopw [3, 4] (fun s i wr => ∃ k : Nat, k ≤ l.length ∧ i = .int .i64 (k : Int) ∧ s = .string (bs (big l.length 2 ++ nums (l.take k))) ∧ Below w.heap.size w wr) (fun _ i _ => l.length - (intOf i).toNat)
  case atStart => exact ⟨0, Nat.zero_le _, rfl, by simp [nums, bs], HB.out⟩
  case round =>
    obtain ⟨k, hk, rfl, rfl, hbr⟩ := hrel
    have HBR := Lib.hid hbr
    by_cases hlt : k < l.length
    · obtain ⟨b, off, rfl, c0⟩ := HS.out k hlt
      have d0 := (hbr.cell (block_of_cell c0)).trans c0
      have HT := Lib.hid (nums_take l k hlt)
      have HL0 : Hid ((big l.length 2 ++ nums (l.take k)).length ≤ 8100) := Lib.hid (by rw [List.length_append, big_length, nums_length, List.length_take]; omega)
      generalize l[k] = n at *
      clear c0 hbr
      generalize hq : big l.length 2 ++ nums (l.take k) = q at *
      have HQ := Lib.hid hq
      clear hq
      go_wp2_with fail
      refine (num_any n wr).mono ?_
      rintro e w2 ⟨rfl, hb2⟩
      have HB2 := Lib.hid (HBR.out.trans (hb2.mono HBR.out.size))
      have hap := bs_app q (big (u64 n) 8)
      have hl : (bs q).size + (bs (big (u64 n) 8)).size ≤ 9223372036854775807 := by have := HL0.out; rw [bs_size, bs_size, big_length]; omega
      clear hb2
      go_wp2_with fail
      go_roundw
      case rel => exact ⟨k + 1, by omega, by go_num, by rw [HT.out, ← List.append_assoc, HQ.out], HB2.out⟩
      case measure => simp [intOf]; omega
    · have HF : Hid (nodesB l = big l.length 2 ++ nums (l.take k)) := Lib.hid (by rw [List.take_of_length_le (by omega)]; rfl)
      clear hbr
      go_wp2_with fail
      go_returns
      exact ⟨ret_val (by rw [HF.out]; rfl), HBR.out⟩
def refItemsT (l0 q1 q2 q3 q4 q5 : List UInt8) (m cc b0 off k : Nat) (a b c n : Int) : Nat → Value → World → Prop
  | 0, v, _ => v = .string (bs (l0))
  | 1, v, _ => v = .slice (some ⟨b0, off, none⟩) m cc
  | 2, v, _ => v = .int .i64 (k : Int)
  | 3, v, _ => v = .pointer (some ⟨b0, off + k * 5, none⟩)
  | 4, v, _ => v = .pointer (some ⟨b0, off + k * 5, none⟩)
  | 5, v, _ => v = .int .i64 a
  | 6, v, _ => v = .string (bs (big (u64 a) 8))
  | 7, v, _ => v = .string (bs (q1))
  | 8, v, _ => v = .slice (some ⟨b0, off, none⟩) m cc
  | 9, v, _ => v = .int .i64 (k : Int)
  | 10, v, _ => v = .pointer (some ⟨b0, off + k * 5, none⟩)
  | 11, v, _ => v = .pointer (some ⟨b0, off + k * 5 + 1, none⟩)
  | 12, v, _ => v = .int .i64 b
  | 13, v, _ => v = .string (bs (big (u64 b) 8))
  | 14, v, _ => v = .string (bs (q2))
  | 15, v, _ => v = .slice (some ⟨b0, off, none⟩) m cc
  | 16, v, _ => v = .int .i64 (k : Int)
  | 17, v, _ => v = .pointer (some ⟨b0, off + k * 5, none⟩)
  | 18, v, _ => v = .pointer (some ⟨b0, off + k * 5 + 2, none⟩)
  | 19, v, _ => v = .int .i64 c
  | 20, v, _ => v = .string (bs (big (u64 c) 8))
  | 21, v, _ => v = .string (bs (q3))
  | 22, v, _ => v = .int .i64 1
  | 23, v, _ => v = .int .u64 1
  | 24, v, _ => v = .string (bs ([1]))
  | 25, v, _ => v = .string (bs (q4))
  | 26, v, _ => v = .slice (some ⟨b0, off, none⟩) m cc
  | 27, v, _ => v = .int .i64 (k : Int)
  | 28, v, _ => v = .pointer (some ⟨b0, off + k * 5, none⟩)
  | 29, v, _ => v = .pointer (some ⟨b0, off + k * 5 + 4, none⟩)
  | 30, v, _ => v = .int .i64 n
  | 31, v, _ => v = .string (bs (big (u64 n) 8))
  | 32, v, _ => v = .string (bs (q5))
  | 33, v, _ => v = .string (bs (q5))
  | _, _, _ => True
theorem refItemsT_later {l0 q1 q2 q3 q4 q5 : List UInt8} {m cc b0 off k : Nat} {a b c n : Int} {j : Nat} {v : Value} {w w' : World} (_hb : Below w.heap.size w w') (h : refItemsT l0 q1 q2 q3 q4 q5 m cc b0 off k a b c n j v w) : refItemsT l0 q1 q2 q3 q4 q5 m cc b0 off k a b c n j v w' := by
  match j, h with
  | 0, h | 1, h | 2, h | 3, h | 4, h | 5, h | 6, h | 7, h | 8, h | 9, h | 10, h | 11, h | 12, h | 13, h | 14, h | 15, h | 16, h | 17, h | 18, h | 19, h | 20, h | 21, h | 22, h | 23, h | 24, h | 25, h | 26, h | 27, h | 28, h | 29, h | 30, h | 31, h | 32, h | 33, h => exact h
  | _ + 34, _ => exact trivial
def refItemsF (l0 q1 q2 q3 q4 q5 : List UInt8) (m cc b0 off k : Nat) (a b c n : Int) : Nat → Value → World → Prop
  | 0, v, _ => v = .string (bs (l0))
  | 1, v, _ => v = .slice (some ⟨b0, off, none⟩) m cc
  | 2, v, _ => v = .int .i64 (k : Int)
  | 3, v, _ => v = .pointer (some ⟨b0, off + k * 5, none⟩)
  | 4, v, _ => v = .pointer (some ⟨b0, off + k * 5, none⟩)
  | 5, v, _ => v = .int .i64 a
  | 6, v, _ => v = .string (bs (big (u64 a) 8))
  | 7, v, _ => v = .string (bs (q1))
  | 8, v, _ => v = .slice (some ⟨b0, off, none⟩) m cc
  | 9, v, _ => v = .int .i64 (k : Int)
  | 10, v, _ => v = .pointer (some ⟨b0, off + k * 5, none⟩)
  | 11, v, _ => v = .pointer (some ⟨b0, off + k * 5 + 1, none⟩)
  | 12, v, _ => v = .int .i64 b
  | 13, v, _ => v = .string (bs (big (u64 b) 8))
  | 14, v, _ => v = .string (bs (q2))
  | 15, v, _ => v = .slice (some ⟨b0, off, none⟩) m cc
  | 16, v, _ => v = .int .i64 (k : Int)
  | 17, v, _ => v = .pointer (some ⟨b0, off + k * 5, none⟩)
  | 18, v, _ => v = .pointer (some ⟨b0, off + k * 5 + 2, none⟩)
  | 19, v, _ => v = .int .i64 c
  | 20, v, _ => v = .string (bs (big (u64 c) 8))
  | 21, v, _ => v = .string (bs (q3))
  | 22, v, _ => v = .int .i64 0
  | 23, v, _ => v = .int .u64 0
  | 24, v, _ => v = .string (bs ([0]))
  | 25, v, _ => v = .string (bs (q4))
  | 26, v, _ => v = .slice (some ⟨b0, off, none⟩) m cc
  | 27, v, _ => v = .int .i64 (k : Int)
  | 28, v, _ => v = .pointer (some ⟨b0, off + k * 5, none⟩)
  | 29, v, _ => v = .pointer (some ⟨b0, off + k * 5 + 4, none⟩)
  | 30, v, _ => v = .int .i64 n
  | 31, v, _ => v = .string (bs (big (u64 n) 8))
  | 32, v, _ => v = .string (bs (q5))
  | 33, v, _ => v = .string (bs (q5))
  | _, _, _ => True
theorem refItemsF_later {l0 q1 q2 q3 q4 q5 : List UInt8} {m cc b0 off k : Nat} {a b c n : Int} {j : Nat} {v : Value} {w w' : World} (_hb : Below w.heap.size w w') (h : refItemsF l0 q1 q2 q3 q4 q5 m cc b0 off k a b c n j v w) : refItemsF l0 q1 q2 q3 q4 q5 m cc b0 off k a b c n j v w' := by
  match j, h with
  | 0, h | 1, h | 2, h | 3, h | 4, h | 5, h | 6, h | 7, h | 8, h | 9, h | 10, h | 11, h | 12, h | 13, h | 14, h | 15, h | 16, h | 17, h | 18, h | 19, h | 20, h | 21, h | 22, h | 23, h | 24, h | 25, h | 26, h | 27, h | 28, h | 29, h | 30, h | 31, h | 32, h | 33, h => exact h
  | _ + 34, _ => exact trivial
theorem add_fact (q p : List UInt8) (h : q.length ≤ 100000) (k : p.length ≤ 100) : bs q ++ bs p = bs (q ++ p) ∧ (bs q).size + (bs p).size ≤ 9223372036854775807 := ⟨bs_app q p, by rw [bs_size, bs_size]; omega⟩
set_option maxHeartbeats 1000000 in
theorem refItems_any (A : Option Addr) (l : List It) (cap : Nat) (w : World) (hs : Items w A l) (hm : l.length ≤ 1000) :
    Calls Try.prog 36 #[.slice A l.length cap] w fun e w' => e = .returned (.string (bs (itemsB l))) ∧ Below w.heap.size w w' := by
  have HS := Lib.hid hs
  have HU : Hid (((u64 (l.length : Int) : Nat) : Int) = (l.length : Int)) := Lib.hid (by rw [u64_nat _ (by omega)])
  clear hs
  go_enter Try.func36, Try.ntmps36
  go_wp2_with fail
  refine (big_any l.length 2 w (by omega) (by omega)).mono ?_
  rintro e w1 ⟨rfl, hb⟩
  have HB := Lib.hid hb
  clear hb
  go_wp2_with fail
  go_loopw [3, 4, 5] (fun s i _ wr => ∃ k : Nat, k ≤ l.length ∧ i = .int .i64 (k : Int) ∧ s = .string (bs (big l.length 2 ++ (l.take k).flatMap itB)) ∧ Below w.heap.size w wr) (fun _ i _ _ => l.length - (intOf i).toNat)
  case atStart => exact ⟨0, Nat.zero_le _, rfl, by simp [bs], HB.out⟩
  case round =>
    obtain ⟨k, hk, rfl, rfl, hbr⟩ := hrel
    have HBR := Lib.hid hbr
    by_cases hlt : k < l.length
    · obtain ⟨b0, off, rfl, hi⟩ := HS.out k hlt
      have hi1 := hi.below hbr hi.lt
      have HIT := Lib.hid hi1
      have c3 := hi1.write
      have HT := Lib.hid (flat_take l k hlt)
      have HL0 : Hid ((big l.length 2 ++ (l.take k).flatMap itB).length ≤ 33100) := Lib.hid (by rw [List.length_append, big_length, flat_length, List.length_take]; omega)
      generalize l[k] = x at *
      clear hi hi1 hbr
      obtain ⟨l0, hq⟩ : ∃ l0, l0 = big l.length 2 ++ (l.take k).flatMap itB := ⟨_, rfl⟩
      rw [← hq] at HL0 ⊢
      have HQ := Lib.hid hq
      clear hq
      obtain ⟨a, b, c, t, n⟩ := x
      simp only at c3
      cases t
      · obtain ⟨q1, hq1⟩ : ∃ q1, q1 = l0 ++ big (u64 a) 8 := ⟨_, rfl⟩
        obtain ⟨q2, hq2⟩ : ∃ q2, q2 = q1 ++ big (u64 b) 8 := ⟨_, rfl⟩
        obtain ⟨q3, hq3⟩ : ∃ q3, q3 = q2 ++ big (u64 c) 8 := ⟨_, rfl⟩
        obtain ⟨q4, hq4⟩ : ∃ q4, q4 = q3 ++ [0] := ⟨_, rfl⟩
        obtain ⟨q5, hq5⟩ : ∃ q5, q5 = q4 ++ big (u64 n) 8 := ⟨_, rfl⟩
        have z1 : q1.length ≤ 33108 := by rw [hq1, List.length_append, big_length]; have := HL0.out; omega
        have z2 : q2.length ≤ 33116 := by rw [hq2, List.length_append, big_length]; omega
        have z3 : q3.length ≤ 33124 := by rw [hq3, List.length_append, big_length]; omega
        have z4 : q4.length ≤ 33125 := by rw [hq4, List.length_append]; simp; omega
        have HP1 := Lib.hid (hq1 ▸ add_fact l0 (big (u64 a) 8) (by have := HL0.out; omega) (by rw [big_length]; decide))
        have HP2 := Lib.hid (hq2 ▸ add_fact q1 (big (u64 b) 8) (by omega) (by rw [big_length]; decide))
        have HP3 := Lib.hid (hq3 ▸ add_fact q2 (big (u64 c) 8) (by omega) (by rw [big_length]; decide))
        have HP4 := Lib.hid (hq4 ▸ add_fact q3 [0] (by omega) (by simp))
        have HP5 := Lib.hid (hq5 ▸ add_fact q4 (big (u64 n) 8) (by omega) (by rw [big_length]; decide))
        have HE : Hid (q5 = big l.length 2 ++ (l.take (k + 1)).flatMap itB) := Lib.hid (by
          rw [hq5, hq4, hq3, hq2, hq1, HT.out, HQ.out]
          unfold itB nums
          simp)
        clear hq1 hq2 hq3 hq4 hq5 z1 z2 z3 z4
        go_wp2_with fail
        clear c3
        refine Reg.region_heavy (by kernel_rfl) 33 [33] (refItemsF l0 q1 q2 q3 q4 q5 l.length cap b0 off k a b c n) (fun a => Below wr.heap.size wr a) (fun a => Below wr.heap.size wr a) (fun V => [(some 21, V 0), (some 22, V 1), (some 23, V 2), (some 24, V 3), (some 25, V 4), (some 26, V 5), (some 27, V 6), (some 28, V 7), (some 29, V 8), (some 30, V 9), (some 31, V 10), (some 32, V 11), (some 33, V 12), (some 34, V 13), (some 35, V 14), (some 36, V 15), (some 37, V 16), (some 38, V 17), (some 39, V 18), (some 40, V 19), (some 41, V 20), (some 42, V 21), (some 43, V 22), (some 44, V 23), (some 45, V 24), (some 46, V 25), (some 47, V 26), (some 48, V 27), (some 49, V 28), (some 50, V 29), (some 51, V 30), (some 52, V 31), (some 53, V 32), (some 3, V 33)]) (by kernel_rfl) (by kernel_rfl) (by kernel_rfl) (fun V => rfl) ?_ ?_ ?_
        · exact (Below.refl _ _).drew
        · intro i o ho
          have hi : i < 34 := (Array.getElem?_eq_some_iff.1 ho).1
          rcases i with _ | _ | _ | _ | _ | _ | _ | _ | _ | _ | _ | _ | _ | _ | _ | _ | _ | _ | _ | _ | _ | _ | _ | _ | _ | _ | _ | _ | _ | _ | _ | _ | _ | _ | i
          · obtain rfl := Option.some.inj ho
            intro ρ wi hE hI hs hd
            try dsimp only at hI
            have e3 : ρ (.tmp 3) = .string (bs (l0)) := hs 3 (by kernel_rfl)
            exact Reg.Gives.value (v := .string (bs (l0))) (w' := wi) (by go_simp) (Reg.OwedH.same hI rfl)
          · obtain rfl := Option.some.inj ho
            intro ρ wi hE hI hs hd
            try dsimp only at hI
            have e0 : ρ (.tmp 0) = .slice (some ⟨b0, off, none⟩) l.length cap := hs 0 (by kernel_rfl)
            exact Reg.Gives.value (v := .slice (some ⟨b0, off, none⟩) l.length cap) (w' := wi) (by go_simp) (Reg.OwedH.same hI rfl)
          · obtain rfl := Option.some.inj ho
            intro ρ wi hE hI hs hd
            try dsimp only at hI
            have e4 : ρ (.tmp 4) = .int .i64 (k : Int) := hs 4 (by kernel_rfl)
            exact Reg.Gives.value (v := .int .i64 (k : Int)) (w' := wi) (by go_simp) (Reg.OwedH.same hI rfl)
          · obtain rfl := Option.some.inj ho
            intro ρ wi hE hI hs hd
            try dsimp only at hI
            obtain ⟨u22, g22, e22⟩ := hd 1 22 (by kernel_rfl) (by kernel_rfl) (by show _ < 55; decide)
            obtain rfl : u22 = .slice (some ⟨b0, off, none⟩) l.length cap := g22
            obtain ⟨u23, g23, e23⟩ := hd 2 23 (by kernel_rfl) (by kernel_rfl) (by show _ < 55; decide)
            obtain rfl : u23 = .int .i64 (k : Int) := g23
            exact Reg.Gives.value (v := .pointer (some ⟨b0, off + k * 5, none⟩)) (w' := wi) (by go_simp) (Reg.OwedH.same hI rfl)
          · obtain rfl := Option.some.inj ho
            intro ρ wi hE hI hs hd
            try dsimp only at hI
            obtain ⟨u24, g24, e24⟩ := hd 3 24 (by kernel_rfl) (by kernel_rfl) (by show _ < 55; decide)
            obtain rfl : u24 = .pointer (some ⟨b0, off + k * 5, none⟩) := g24
            exact Reg.Gives.value (v := .pointer (some ⟨b0, off + k * 5, none⟩)) (w' := wi) (by go_simp) (Reg.OwedH.same hI rfl)
          · obtain rfl := Option.some.inj ho
            intro ρ wi hE hI hs hd
            try dsimp only at hI
            obtain ⟨u25, g25, e25⟩ := hd 4 25 (by kernel_rfl) (by kernel_rfl) (by show _ < 55; decide)
            obtain rfl : u25 = .pointer (some ⟨b0, off + k * 5, none⟩) := g25
            have hx := (HIT.out.below hI HIT.out.lt).cell
            exact Reg.Gives.value (v := .int .i64 a) (w' := wi) (by go_simp) (Reg.OwedH.same hI rfl)
          · obtain rfl := Option.some.inj ho
            intro ρ wi hE hI hs hd
            try dsimp only at hI
            obtain ⟨u26, g26, e26⟩ := hd 5 26 (by kernel_rfl) (by kernel_rfl) (by show _ < 55; decide)
            obtain rfl : u26 = .int .i64 a := g26
            have hf := hE.func
            refine Reg.Gives.call (f := 59) (args := #[.int .i64 a]) (w' := wi) (by go_simp) ?_
            refine (num_any a wi).mono ?_
            rintro e w'' ⟨rfl, hbb⟩
            exact ⟨_, rfl, ⟨rfl, hI.trans (hbb.mono hI.size), fun j u _ _ h => refItemsF_later hbb h⟩⟩
          · obtain rfl := Option.some.inj ho
            intro ρ wi hE hI hs hd
            try dsimp only at hI
            obtain ⟨u21, g21, e21⟩ := hd 0 21 (by kernel_rfl) (by kernel_rfl) (by show _ < 55; decide)
            obtain rfl : u21 = .string (bs (l0)) := g21
            obtain ⟨u27, g27, e27⟩ := hd 6 27 (by kernel_rfl) (by kernel_rfl) (by show _ < 55; decide)
            obtain rfl : u27 = .string (bs (big (u64 a) 8)) := g27
            have hap := HP1.out.1
            have hl := HP1.out.2
            exact Reg.Gives.value (v := .string (bs (q1))) (w' := wi) (by go_simp) (Reg.OwedH.same hI rfl)
          · obtain rfl := Option.some.inj ho
            intro ρ wi hE hI hs hd
            try dsimp only at hI
            have e0 : ρ (.tmp 0) = .slice (some ⟨b0, off, none⟩) l.length cap := hs 0 (by kernel_rfl)
            exact Reg.Gives.value (v := .slice (some ⟨b0, off, none⟩) l.length cap) (w' := wi) (by go_simp) (Reg.OwedH.same hI rfl)
          · obtain rfl := Option.some.inj ho
            intro ρ wi hE hI hs hd
            try dsimp only at hI
            have e4 : ρ (.tmp 4) = .int .i64 (k : Int) := hs 4 (by kernel_rfl)
            exact Reg.Gives.value (v := .int .i64 (k : Int)) (w' := wi) (by go_simp) (Reg.OwedH.same hI rfl)
          · obtain rfl := Option.some.inj ho
            intro ρ wi hE hI hs hd
            try dsimp only at hI
            obtain ⟨u29, g29, e29⟩ := hd 8 29 (by kernel_rfl) (by kernel_rfl) (by show _ < 55; decide)
            obtain rfl : u29 = .slice (some ⟨b0, off, none⟩) l.length cap := g29
            obtain ⟨u30, g30, e30⟩ := hd 9 30 (by kernel_rfl) (by kernel_rfl) (by show _ < 55; decide)
            obtain rfl : u30 = .int .i64 (k : Int) := g30
            exact Reg.Gives.value (v := .pointer (some ⟨b0, off + k * 5, none⟩)) (w' := wi) (by go_simp) (Reg.OwedH.same hI rfl)
          · obtain rfl := Option.some.inj ho
            intro ρ wi hE hI hs hd
            try dsimp only at hI
            obtain ⟨u31, g31, e31⟩ := hd 10 31 (by kernel_rfl) (by kernel_rfl) (by show _ < 55; decide)
            obtain rfl : u31 = .pointer (some ⟨b0, off + k * 5, none⟩) := g31
            exact Reg.Gives.value (v := .pointer (some ⟨b0, off + k * 5 + 1, none⟩)) (w' := wi) (by go_simp) (Reg.OwedH.same hI rfl)
          · obtain rfl := Option.some.inj ho
            intro ρ wi hE hI hs hd
            try dsimp only at hI
            obtain ⟨u32, g32, e32⟩ := hd 11 32 (by kernel_rfl) (by kernel_rfl) (by show _ < 55; decide)
            obtain rfl : u32 = .pointer (some ⟨b0, off + k * 5 + 1, none⟩) := g32
            have hx := (HIT.out.below hI HIT.out.lt).version
            exact Reg.Gives.value (v := .int .i64 b) (w' := wi) (by go_simp) (Reg.OwedH.same hI rfl)
          · obtain rfl := Option.some.inj ho
            intro ρ wi hE hI hs hd
            try dsimp only at hI
            obtain ⟨u33, g33, e33⟩ := hd 12 33 (by kernel_rfl) (by kernel_rfl) (by show _ < 55; decide)
            obtain rfl : u33 = .int .i64 b := g33
            have hf := hE.func
            refine Reg.Gives.call (f := 59) (args := #[.int .i64 b]) (w' := wi) (by go_simp) ?_
            refine (num_any b wi).mono ?_
            rintro e w'' ⟨rfl, hbb⟩
            exact ⟨_, rfl, ⟨rfl, hI.trans (hbb.mono hI.size), fun j u _ _ h => refItemsF_later hbb h⟩⟩
          · obtain rfl := Option.some.inj ho
            intro ρ wi hE hI hs hd
            try dsimp only at hI
            obtain ⟨u28, g28, e28⟩ := hd 7 28 (by kernel_rfl) (by kernel_rfl) (by show _ < 55; decide)
            obtain rfl : u28 = .string (bs (q1)) := g28
            obtain ⟨u34, g34, e34⟩ := hd 13 34 (by kernel_rfl) (by kernel_rfl) (by show _ < 55; decide)
            obtain rfl : u34 = .string (bs (big (u64 b) 8)) := g34
            have hap := HP2.out.1
            have hl := HP2.out.2
            exact Reg.Gives.value (v := .string (bs (q2))) (w' := wi) (by go_simp) (Reg.OwedH.same hI rfl)
          · obtain rfl := Option.some.inj ho
            intro ρ wi hE hI hs hd
            try dsimp only at hI
            have e0 : ρ (.tmp 0) = .slice (some ⟨b0, off, none⟩) l.length cap := hs 0 (by kernel_rfl)
            exact Reg.Gives.value (v := .slice (some ⟨b0, off, none⟩) l.length cap) (w' := wi) (by go_simp) (Reg.OwedH.same hI rfl)
          · obtain rfl := Option.some.inj ho
            intro ρ wi hE hI hs hd
            try dsimp only at hI
            have e4 : ρ (.tmp 4) = .int .i64 (k : Int) := hs 4 (by kernel_rfl)
            exact Reg.Gives.value (v := .int .i64 (k : Int)) (w' := wi) (by go_simp) (Reg.OwedH.same hI rfl)
          · obtain rfl := Option.some.inj ho
            intro ρ wi hE hI hs hd
            try dsimp only at hI
            obtain ⟨u36, g36, e36⟩ := hd 15 36 (by kernel_rfl) (by kernel_rfl) (by show _ < 55; decide)
            obtain rfl : u36 = .slice (some ⟨b0, off, none⟩) l.length cap := g36
            obtain ⟨u37, g37, e37⟩ := hd 16 37 (by kernel_rfl) (by kernel_rfl) (by show _ < 55; decide)
            obtain rfl : u37 = .int .i64 (k : Int) := g37
            exact Reg.Gives.value (v := .pointer (some ⟨b0, off + k * 5, none⟩)) (w' := wi) (by go_simp) (Reg.OwedH.same hI rfl)
          · obtain rfl := Option.some.inj ho
            intro ρ wi hE hI hs hd
            try dsimp only at hI
            obtain ⟨u38, g38, e38⟩ := hd 17 38 (by kernel_rfl) (by kernel_rfl) (by show _ < 55; decide)
            obtain rfl : u38 = .pointer (some ⟨b0, off + k * 5, none⟩) := g38
            exact Reg.Gives.value (v := .pointer (some ⟨b0, off + k * 5 + 2, none⟩)) (w' := wi) (by go_simp) (Reg.OwedH.same hI rfl)
          · obtain rfl := Option.some.inj ho
            intro ρ wi hE hI hs hd
            try dsimp only at hI
            obtain ⟨u39, g39, e39⟩ := hd 18 39 (by kernel_rfl) (by kernel_rfl) (by show _ < 55; decide)
            obtain rfl : u39 = .pointer (some ⟨b0, off + k * 5 + 2, none⟩) := g39
            have hx := (HIT.out.below hI HIT.out.lt).value
            exact Reg.Gives.value (v := .int .i64 c) (w' := wi) (by go_simp) (Reg.OwedH.same hI rfl)
          · obtain rfl := Option.some.inj ho
            intro ρ wi hE hI hs hd
            try dsimp only at hI
            obtain ⟨u40, g40, e40⟩ := hd 19 40 (by kernel_rfl) (by kernel_rfl) (by show _ < 55; decide)
            obtain rfl : u40 = .int .i64 c := g40
            have hf := hE.func
            refine Reg.Gives.call (f := 59) (args := #[.int .i64 c]) (w' := wi) (by go_simp) ?_
            refine (num_any c wi).mono ?_
            rintro e w'' ⟨rfl, hbb⟩
            exact ⟨_, rfl, ⟨rfl, hI.trans (hbb.mono hI.size), fun j u _ _ h => refItemsF_later hbb h⟩⟩
          · obtain rfl := Option.some.inj ho
            intro ρ wi hE hI hs hd
            try dsimp only at hI
            obtain ⟨u35, g35, e35⟩ := hd 14 35 (by kernel_rfl) (by kernel_rfl) (by show _ < 55; decide)
            obtain rfl : u35 = .string (bs (q2)) := g35
            obtain ⟨u41, g41, e41⟩ := hd 20 41 (by kernel_rfl) (by kernel_rfl) (by show _ < 55; decide)
            obtain rfl : u41 = .string (bs (big (u64 c) 8)) := g41
            have hap := HP3.out.1
            have hl := HP3.out.2
            exact Reg.Gives.value (v := .string (bs (q3))) (w' := wi) (by go_simp) (Reg.OwedH.same hI rfl)
          · obtain rfl := Option.some.inj ho
            intro ρ wi hE hI hs hd
            try dsimp only at hI
            have e5 : ρ (.tmp 5) = .int .i64 0 := hs 5 (by kernel_rfl)
            exact Reg.Gives.value (v := .int .i64 0) (w' := wi) (by go_simp) (Reg.OwedH.same hI rfl)
          · obtain rfl := Option.some.inj ho
            intro ρ wi hE hI hs hd
            try dsimp only at hI
            obtain ⟨u43, g43, e43⟩ := hd 22 43 (by kernel_rfl) (by kernel_rfl) (by show _ < 55; decide)
            obtain rfl : u43 = .int .i64 0 := g43
            have hx : IntKind.u64.wrap 0 = 0 := by decide
            exact Reg.Gives.value (v := .int .u64 0) (w' := wi) (by go_simp) (Reg.OwedH.same hI rfl)
          · obtain rfl := Option.some.inj ho
            intro ρ wi hE hI hs hd
            try dsimp only at hI
            obtain ⟨u44, g44, e44⟩ := hd 23 44 (by kernel_rfl) (by kernel_rfl) (by show _ < 55; decide)
            obtain rfl : u44 = .int .u64 0 := g44
            have hc := hE.const
            have hf := hE.func
            refine Reg.Gives.call (f := 33) (args := #[.int .u64 0, .int .i64 1]) (w' := wi) (by go_simp) ?_
            refine (big_bit0 wi).mono ?_
            rintro e w'' ⟨rfl, hbb⟩
            exact ⟨_, rfl, ⟨rfl, hI.trans (hbb.mono hI.size), fun j u _ _ h => refItemsF_later hbb h⟩⟩
          · obtain rfl := Option.some.inj ho
            intro ρ wi hE hI hs hd
            try dsimp only at hI
            obtain ⟨u42, g42, e42⟩ := hd 21 42 (by kernel_rfl) (by kernel_rfl) (by show _ < 55; decide)
            obtain rfl : u42 = .string (bs (q3)) := g42
            obtain ⟨u45, g45, e45⟩ := hd 24 45 (by kernel_rfl) (by kernel_rfl) (by show _ < 55; decide)
            obtain rfl : u45 = .string (bs ([0])) := g45
            have hap := HP4.out.1
            have hl := HP4.out.2
            exact Reg.Gives.value (v := .string (bs (q4))) (w' := wi) (by go_simp) (Reg.OwedH.same hI rfl)
          · obtain rfl := Option.some.inj ho
            intro ρ wi hE hI hs hd
            try dsimp only at hI
            have e0 : ρ (.tmp 0) = .slice (some ⟨b0, off, none⟩) l.length cap := hs 0 (by kernel_rfl)
            exact Reg.Gives.value (v := .slice (some ⟨b0, off, none⟩) l.length cap) (w' := wi) (by go_simp) (Reg.OwedH.same hI rfl)
          · obtain rfl := Option.some.inj ho
            intro ρ wi hE hI hs hd
            try dsimp only at hI
            have e4 : ρ (.tmp 4) = .int .i64 (k : Int) := hs 4 (by kernel_rfl)
            exact Reg.Gives.value (v := .int .i64 (k : Int)) (w' := wi) (by go_simp) (Reg.OwedH.same hI rfl)
          · obtain rfl := Option.some.inj ho
            intro ρ wi hE hI hs hd
            try dsimp only at hI
            obtain ⟨u47, g47, e47⟩ := hd 26 47 (by kernel_rfl) (by kernel_rfl) (by show _ < 55; decide)
            obtain rfl : u47 = .slice (some ⟨b0, off, none⟩) l.length cap := g47
            obtain ⟨u48, g48, e48⟩ := hd 27 48 (by kernel_rfl) (by kernel_rfl) (by show _ < 55; decide)
            obtain rfl : u48 = .int .i64 (k : Int) := g48
            exact Reg.Gives.value (v := .pointer (some ⟨b0, off + k * 5, none⟩)) (w' := wi) (by go_simp) (Reg.OwedH.same hI rfl)
          · obtain rfl := Option.some.inj ho
            intro ρ wi hE hI hs hd
            try dsimp only at hI
            obtain ⟨u49, g49, e49⟩ := hd 28 49 (by kernel_rfl) (by kernel_rfl) (by show _ < 55; decide)
            obtain rfl : u49 = .pointer (some ⟨b0, off + k * 5, none⟩) := g49
            exact Reg.Gives.value (v := .pointer (some ⟨b0, off + k * 5 + 4, none⟩)) (w' := wi) (by go_simp) (Reg.OwedH.same hI rfl)
          · obtain rfl := Option.some.inj ho
            intro ρ wi hE hI hs hd
            try dsimp only at hI
            obtain ⟨u50, g50, e50⟩ := hd 29 50 (by kernel_rfl) (by kernel_rfl) (by show _ < 55; decide)
            obtain rfl : u50 = .pointer (some ⟨b0, off + k * 5 + 4, none⟩) := g50
            have hx := (HIT.out.below hI HIT.out.lt).new
            exact Reg.Gives.value (v := .int .i64 n) (w' := wi) (by go_simp) (Reg.OwedH.same hI rfl)
          · obtain rfl := Option.some.inj ho
            intro ρ wi hE hI hs hd
            try dsimp only at hI
            obtain ⟨u51, g51, e51⟩ := hd 30 51 (by kernel_rfl) (by kernel_rfl) (by show _ < 55; decide)
            obtain rfl : u51 = .int .i64 n := g51
            have hf := hE.func
            refine Reg.Gives.call (f := 59) (args := #[.int .i64 n]) (w' := wi) (by go_simp) ?_
            refine (num_any n wi).mono ?_
            rintro e w'' ⟨rfl, hbb⟩
            exact ⟨_, rfl, ⟨rfl, hI.trans (hbb.mono hI.size), fun j u _ _ h => refItemsF_later hbb h⟩⟩
          · obtain rfl := Option.some.inj ho
            intro ρ wi hE hI hs hd
            try dsimp only at hI
            obtain ⟨u46, g46, e46⟩ := hd 25 46 (by kernel_rfl) (by kernel_rfl) (by show _ < 55; decide)
            obtain rfl : u46 = .string (bs (q4)) := g46
            obtain ⟨u52, g52, e52⟩ := hd 31 52 (by kernel_rfl) (by kernel_rfl) (by show _ < 55; decide)
            obtain rfl : u52 = .string (bs (big (u64 n) 8)) := g52
            have hap := HP5.out.1
            have hl := HP5.out.2
            exact Reg.Gives.value (v := .string (bs (q5))) (w' := wi) (by go_simp) (Reg.OwedH.same hI rfl)
          · obtain rfl := Option.some.inj ho
            intro ρ wi hE hI hs hd
            try dsimp only at hI
            obtain ⟨u53, g53, e53⟩ := hd 32 53 (by kernel_rfl) (by kernel_rfl) (by show _ < 55; decide)
            obtain rfl : u53 = .string (bs (q5)) := g53
            exact Reg.Gives.value (v := .string (bs (q5))) (w' := wi) (by go_simp) (Reg.OwedH.same hI rfl)
          · omega
        · intro V wz hV hI
          have hV33 : V 33 = .string (bs (q5)) := hV 33 (by decide) rfl
          simp only [Reg.putsO, List.foldl_cons, List.foldl_nil, Act.put, List.setIfInBounds_toArray, List.set_cons_succ, List.set_cons_zero, hV33]
          replace hI : (fun a => Below wr.heap.size wr a) wz := hI
          clear hV hV33
          have HIW := Lib.hid (HBR.out.trans (hI.mono HBR.out.size))
          clear hI
          go_wp2_with fail
          go_roundw
          case rel => exact ⟨k + 1, by omega, by go_num, by rw [HE.out], HIW.out⟩
          case measure => simp [intOf]; omega
      · obtain ⟨q1, hq1⟩ : ∃ q1, q1 = l0 ++ big (u64 a) 8 := ⟨_, rfl⟩
        obtain ⟨q2, hq2⟩ : ∃ q2, q2 = q1 ++ big (u64 b) 8 := ⟨_, rfl⟩
        obtain ⟨q3, hq3⟩ : ∃ q3, q3 = q2 ++ big (u64 c) 8 := ⟨_, rfl⟩
        obtain ⟨q4, hq4⟩ : ∃ q4, q4 = q3 ++ [1] := ⟨_, rfl⟩
        obtain ⟨q5, hq5⟩ : ∃ q5, q5 = q4 ++ big (u64 n) 8 := ⟨_, rfl⟩
        have z1 : q1.length ≤ 33108 := by rw [hq1, List.length_append, big_length]; have := HL0.out; omega
        have z2 : q2.length ≤ 33116 := by rw [hq2, List.length_append, big_length]; omega
        have z3 : q3.length ≤ 33124 := by rw [hq3, List.length_append, big_length]; omega
        have z4 : q4.length ≤ 33125 := by rw [hq4, List.length_append]; simp; omega
        have HP1 := Lib.hid (hq1 ▸ add_fact l0 (big (u64 a) 8) (by have := HL0.out; omega) (by rw [big_length]; decide))
        have HP2 := Lib.hid (hq2 ▸ add_fact q1 (big (u64 b) 8) (by omega) (by rw [big_length]; decide))
        have HP3 := Lib.hid (hq3 ▸ add_fact q2 (big (u64 c) 8) (by omega) (by rw [big_length]; decide))
        have HP4 := Lib.hid (hq4 ▸ add_fact q3 [1] (by omega) (by simp))
        have HP5 := Lib.hid (hq5 ▸ add_fact q4 (big (u64 n) 8) (by omega) (by rw [big_length]; decide))
        have HE : Hid (q5 = big l.length 2 ++ (l.take (k + 1)).flatMap itB) := Lib.hid (by
          rw [hq5, hq4, hq3, hq2, hq1, HT.out, HQ.out]
          unfold itB nums
          simp)
        clear hq1 hq2 hq3 hq4 hq5 z1 z2 z3 z4
        go_wp2_with fail
        clear c3
        refine Reg.region_heavy (by kernel_rfl) 33 [33] (refItemsT l0 q1 q2 q3 q4 q5 l.length cap b0 off k a b c n) (fun a => Below wr.heap.size wr a) (fun a => Below wr.heap.size wr a) (fun V => [(some 21, V 0), (some 22, V 1), (some 23, V 2), (some 24, V 3), (some 25, V 4), (some 26, V 5), (some 27, V 6), (some 28, V 7), (some 29, V 8), (some 30, V 9), (some 31, V 10), (some 32, V 11), (some 33, V 12), (some 34, V 13), (some 35, V 14), (some 36, V 15), (some 37, V 16), (some 38, V 17), (some 39, V 18), (some 40, V 19), (some 41, V 20), (some 42, V 21), (some 43, V 22), (some 44, V 23), (some 45, V 24), (some 46, V 25), (some 47, V 26), (some 48, V 27), (some 49, V 28), (some 50, V 29), (some 51, V 30), (some 52, V 31), (some 53, V 32), (some 3, V 33)]) (by kernel_rfl) (by kernel_rfl) (by kernel_rfl) (fun V => rfl) ?_ ?_ ?_
        · exact (Below.refl _ _).drew
        · intro i o ho
          have hi : i < 34 := (Array.getElem?_eq_some_iff.1 ho).1
          rcases i with _ | _ | _ | _ | _ | _ | _ | _ | _ | _ | _ | _ | _ | _ | _ | _ | _ | _ | _ | _ | _ | _ | _ | _ | _ | _ | _ | _ | _ | _ | _ | _ | _ | _ | i
          · obtain rfl := Option.some.inj ho
            intro ρ wi hE hI hs hd
            try dsimp only at hI
            have e3 : ρ (.tmp 3) = .string (bs (l0)) := hs 3 (by kernel_rfl)
            exact Reg.Gives.value (v := .string (bs (l0))) (w' := wi) (by go_simp) (Reg.OwedH.same hI rfl)
          · obtain rfl := Option.some.inj ho
            intro ρ wi hE hI hs hd
            try dsimp only at hI
            have e0 : ρ (.tmp 0) = .slice (some ⟨b0, off, none⟩) l.length cap := hs 0 (by kernel_rfl)
            exact Reg.Gives.value (v := .slice (some ⟨b0, off, none⟩) l.length cap) (w' := wi) (by go_simp) (Reg.OwedH.same hI rfl)
          · obtain rfl := Option.some.inj ho
            intro ρ wi hE hI hs hd
            try dsimp only at hI
            have e4 : ρ (.tmp 4) = .int .i64 (k : Int) := hs 4 (by kernel_rfl)
            exact Reg.Gives.value (v := .int .i64 (k : Int)) (w' := wi) (by go_simp) (Reg.OwedH.same hI rfl)
          · obtain rfl := Option.some.inj ho
            intro ρ wi hE hI hs hd
            try dsimp only at hI
            obtain ⟨u22, g22, e22⟩ := hd 1 22 (by kernel_rfl) (by kernel_rfl) (by show _ < 55; decide)
            obtain rfl : u22 = .slice (some ⟨b0, off, none⟩) l.length cap := g22
            obtain ⟨u23, g23, e23⟩ := hd 2 23 (by kernel_rfl) (by kernel_rfl) (by show _ < 55; decide)
            obtain rfl : u23 = .int .i64 (k : Int) := g23
            exact Reg.Gives.value (v := .pointer (some ⟨b0, off + k * 5, none⟩)) (w' := wi) (by go_simp) (Reg.OwedH.same hI rfl)
          · obtain rfl := Option.some.inj ho
            intro ρ wi hE hI hs hd
            try dsimp only at hI
            obtain ⟨u24, g24, e24⟩ := hd 3 24 (by kernel_rfl) (by kernel_rfl) (by show _ < 55; decide)
            obtain rfl : u24 = .pointer (some ⟨b0, off + k * 5, none⟩) := g24
            exact Reg.Gives.value (v := .pointer (some ⟨b0, off + k * 5, none⟩)) (w' := wi) (by go_simp) (Reg.OwedH.same hI rfl)
          · obtain rfl := Option.some.inj ho
            intro ρ wi hE hI hs hd
            try dsimp only at hI
            obtain ⟨u25, g25, e25⟩ := hd 4 25 (by kernel_rfl) (by kernel_rfl) (by show _ < 55; decide)
            obtain rfl : u25 = .pointer (some ⟨b0, off + k * 5, none⟩) := g25
            have hx := (HIT.out.below hI HIT.out.lt).cell
            exact Reg.Gives.value (v := .int .i64 a) (w' := wi) (by go_simp) (Reg.OwedH.same hI rfl)
          · obtain rfl := Option.some.inj ho
            intro ρ wi hE hI hs hd
            try dsimp only at hI
            obtain ⟨u26, g26, e26⟩ := hd 5 26 (by kernel_rfl) (by kernel_rfl) (by show _ < 55; decide)
            obtain rfl : u26 = .int .i64 a := g26
            have hf := hE.func
            refine Reg.Gives.call (f := 59) (args := #[.int .i64 a]) (w' := wi) (by go_simp) ?_
            refine (num_any a wi).mono ?_
            rintro e w'' ⟨rfl, hbb⟩
            exact ⟨_, rfl, ⟨rfl, hI.trans (hbb.mono hI.size), fun j u _ _ h => refItemsT_later hbb h⟩⟩
          · obtain rfl := Option.some.inj ho
            intro ρ wi hE hI hs hd
            try dsimp only at hI
            obtain ⟨u21, g21, e21⟩ := hd 0 21 (by kernel_rfl) (by kernel_rfl) (by show _ < 55; decide)
            obtain rfl : u21 = .string (bs (l0)) := g21
            obtain ⟨u27, g27, e27⟩ := hd 6 27 (by kernel_rfl) (by kernel_rfl) (by show _ < 55; decide)
            obtain rfl : u27 = .string (bs (big (u64 a) 8)) := g27
            have hap := HP1.out.1
            have hl := HP1.out.2
            exact Reg.Gives.value (v := .string (bs (q1))) (w' := wi) (by go_simp) (Reg.OwedH.same hI rfl)
          · obtain rfl := Option.some.inj ho
            intro ρ wi hE hI hs hd
            try dsimp only at hI
            have e0 : ρ (.tmp 0) = .slice (some ⟨b0, off, none⟩) l.length cap := hs 0 (by kernel_rfl)
            exact Reg.Gives.value (v := .slice (some ⟨b0, off, none⟩) l.length cap) (w' := wi) (by go_simp) (Reg.OwedH.same hI rfl)
          · obtain rfl := Option.some.inj ho
            intro ρ wi hE hI hs hd
            try dsimp only at hI
            have e4 : ρ (.tmp 4) = .int .i64 (k : Int) := hs 4 (by kernel_rfl)
            exact Reg.Gives.value (v := .int .i64 (k : Int)) (w' := wi) (by go_simp) (Reg.OwedH.same hI rfl)
          · obtain rfl := Option.some.inj ho
            intro ρ wi hE hI hs hd
            try dsimp only at hI
            obtain ⟨u29, g29, e29⟩ := hd 8 29 (by kernel_rfl) (by kernel_rfl) (by show _ < 55; decide)
            obtain rfl : u29 = .slice (some ⟨b0, off, none⟩) l.length cap := g29
            obtain ⟨u30, g30, e30⟩ := hd 9 30 (by kernel_rfl) (by kernel_rfl) (by show _ < 55; decide)
            obtain rfl : u30 = .int .i64 (k : Int) := g30
            exact Reg.Gives.value (v := .pointer (some ⟨b0, off + k * 5, none⟩)) (w' := wi) (by go_simp) (Reg.OwedH.same hI rfl)
          · obtain rfl := Option.some.inj ho
            intro ρ wi hE hI hs hd
            try dsimp only at hI
            obtain ⟨u31, g31, e31⟩ := hd 10 31 (by kernel_rfl) (by kernel_rfl) (by show _ < 55; decide)
            obtain rfl : u31 = .pointer (some ⟨b0, off + k * 5, none⟩) := g31
            exact Reg.Gives.value (v := .pointer (some ⟨b0, off + k * 5 + 1, none⟩)) (w' := wi) (by go_simp) (Reg.OwedH.same hI rfl)
          · obtain rfl := Option.some.inj ho
            intro ρ wi hE hI hs hd
            try dsimp only at hI
            obtain ⟨u32, g32, e32⟩ := hd 11 32 (by kernel_rfl) (by kernel_rfl) (by show _ < 55; decide)
            obtain rfl : u32 = .pointer (some ⟨b0, off + k * 5 + 1, none⟩) := g32
            have hx := (HIT.out.below hI HIT.out.lt).version
            exact Reg.Gives.value (v := .int .i64 b) (w' := wi) (by go_simp) (Reg.OwedH.same hI rfl)
          · obtain rfl := Option.some.inj ho
            intro ρ wi hE hI hs hd
            try dsimp only at hI
            obtain ⟨u33, g33, e33⟩ := hd 12 33 (by kernel_rfl) (by kernel_rfl) (by show _ < 55; decide)
            obtain rfl : u33 = .int .i64 b := g33
            have hf := hE.func
            refine Reg.Gives.call (f := 59) (args := #[.int .i64 b]) (w' := wi) (by go_simp) ?_
            refine (num_any b wi).mono ?_
            rintro e w'' ⟨rfl, hbb⟩
            exact ⟨_, rfl, ⟨rfl, hI.trans (hbb.mono hI.size), fun j u _ _ h => refItemsT_later hbb h⟩⟩
          · obtain rfl := Option.some.inj ho
            intro ρ wi hE hI hs hd
            try dsimp only at hI
            obtain ⟨u28, g28, e28⟩ := hd 7 28 (by kernel_rfl) (by kernel_rfl) (by show _ < 55; decide)
            obtain rfl : u28 = .string (bs (q1)) := g28
            obtain ⟨u34, g34, e34⟩ := hd 13 34 (by kernel_rfl) (by kernel_rfl) (by show _ < 55; decide)
            obtain rfl : u34 = .string (bs (big (u64 b) 8)) := g34
            have hap := HP2.out.1
            have hl := HP2.out.2
            exact Reg.Gives.value (v := .string (bs (q2))) (w' := wi) (by go_simp) (Reg.OwedH.same hI rfl)
          · obtain rfl := Option.some.inj ho
            intro ρ wi hE hI hs hd
            try dsimp only at hI
            have e0 : ρ (.tmp 0) = .slice (some ⟨b0, off, none⟩) l.length cap := hs 0 (by kernel_rfl)
            exact Reg.Gives.value (v := .slice (some ⟨b0, off, none⟩) l.length cap) (w' := wi) (by go_simp) (Reg.OwedH.same hI rfl)
          · obtain rfl := Option.some.inj ho
            intro ρ wi hE hI hs hd
            try dsimp only at hI
            have e4 : ρ (.tmp 4) = .int .i64 (k : Int) := hs 4 (by kernel_rfl)
            exact Reg.Gives.value (v := .int .i64 (k : Int)) (w' := wi) (by go_simp) (Reg.OwedH.same hI rfl)
          · obtain rfl := Option.some.inj ho
            intro ρ wi hE hI hs hd
            try dsimp only at hI
            obtain ⟨u36, g36, e36⟩ := hd 15 36 (by kernel_rfl) (by kernel_rfl) (by show _ < 55; decide)
            obtain rfl : u36 = .slice (some ⟨b0, off, none⟩) l.length cap := g36
            obtain ⟨u37, g37, e37⟩ := hd 16 37 (by kernel_rfl) (by kernel_rfl) (by show _ < 55; decide)
            obtain rfl : u37 = .int .i64 (k : Int) := g37
            exact Reg.Gives.value (v := .pointer (some ⟨b0, off + k * 5, none⟩)) (w' := wi) (by go_simp) (Reg.OwedH.same hI rfl)
          · obtain rfl := Option.some.inj ho
            intro ρ wi hE hI hs hd
            try dsimp only at hI
            obtain ⟨u38, g38, e38⟩ := hd 17 38 (by kernel_rfl) (by kernel_rfl) (by show _ < 55; decide)
            obtain rfl : u38 = .pointer (some ⟨b0, off + k * 5, none⟩) := g38
            exact Reg.Gives.value (v := .pointer (some ⟨b0, off + k * 5 + 2, none⟩)) (w' := wi) (by go_simp) (Reg.OwedH.same hI rfl)
          · obtain rfl := Option.some.inj ho
            intro ρ wi hE hI hs hd
            try dsimp only at hI
            obtain ⟨u39, g39, e39⟩ := hd 18 39 (by kernel_rfl) (by kernel_rfl) (by show _ < 55; decide)
            obtain rfl : u39 = .pointer (some ⟨b0, off + k * 5 + 2, none⟩) := g39
            have hx := (HIT.out.below hI HIT.out.lt).value
            exact Reg.Gives.value (v := .int .i64 c) (w' := wi) (by go_simp) (Reg.OwedH.same hI rfl)
          · obtain rfl := Option.some.inj ho
            intro ρ wi hE hI hs hd
            try dsimp only at hI
            obtain ⟨u40, g40, e40⟩ := hd 19 40 (by kernel_rfl) (by kernel_rfl) (by show _ < 55; decide)
            obtain rfl : u40 = .int .i64 c := g40
            have hf := hE.func
            refine Reg.Gives.call (f := 59) (args := #[.int .i64 c]) (w' := wi) (by go_simp) ?_
            refine (num_any c wi).mono ?_
            rintro e w'' ⟨rfl, hbb⟩
            exact ⟨_, rfl, ⟨rfl, hI.trans (hbb.mono hI.size), fun j u _ _ h => refItemsT_later hbb h⟩⟩
          · obtain rfl := Option.some.inj ho
            intro ρ wi hE hI hs hd
            try dsimp only at hI
            obtain ⟨u35, g35, e35⟩ := hd 14 35 (by kernel_rfl) (by kernel_rfl) (by show _ < 55; decide)
            obtain rfl : u35 = .string (bs (q2)) := g35
            obtain ⟨u41, g41, e41⟩ := hd 20 41 (by kernel_rfl) (by kernel_rfl) (by show _ < 55; decide)
            obtain rfl : u41 = .string (bs (big (u64 c) 8)) := g41
            have hap := HP3.out.1
            have hl := HP3.out.2
            exact Reg.Gives.value (v := .string (bs (q3))) (w' := wi) (by go_simp) (Reg.OwedH.same hI rfl)
          · obtain rfl := Option.some.inj ho
            intro ρ wi hE hI hs hd
            try dsimp only at hI
            have e5 : ρ (.tmp 5) = .int .i64 1 := hs 5 (by kernel_rfl)
            exact Reg.Gives.value (v := .int .i64 1) (w' := wi) (by go_simp) (Reg.OwedH.same hI rfl)
          · obtain rfl := Option.some.inj ho
            intro ρ wi hE hI hs hd
            try dsimp only at hI
            obtain ⟨u43, g43, e43⟩ := hd 22 43 (by kernel_rfl) (by kernel_rfl) (by show _ < 55; decide)
            obtain rfl : u43 = .int .i64 1 := g43
            have hx : IntKind.u64.wrap 1 = 1 := by decide
            exact Reg.Gives.value (v := .int .u64 1) (w' := wi) (by go_simp) (Reg.OwedH.same hI rfl)
          · obtain rfl := Option.some.inj ho
            intro ρ wi hE hI hs hd
            try dsimp only at hI
            obtain ⟨u44, g44, e44⟩ := hd 23 44 (by kernel_rfl) (by kernel_rfl) (by show _ < 55; decide)
            obtain rfl : u44 = .int .u64 1 := g44
            have hc := hE.const
            have hf := hE.func
            refine Reg.Gives.call (f := 33) (args := #[.int .u64 1, .int .i64 1]) (w' := wi) (by go_simp) ?_
            refine (big_bit1 wi).mono ?_
            rintro e w'' ⟨rfl, hbb⟩
            exact ⟨_, rfl, ⟨rfl, hI.trans (hbb.mono hI.size), fun j u _ _ h => refItemsT_later hbb h⟩⟩
          · obtain rfl := Option.some.inj ho
            intro ρ wi hE hI hs hd
            try dsimp only at hI
            obtain ⟨u42, g42, e42⟩ := hd 21 42 (by kernel_rfl) (by kernel_rfl) (by show _ < 55; decide)
            obtain rfl : u42 = .string (bs (q3)) := g42
            obtain ⟨u45, g45, e45⟩ := hd 24 45 (by kernel_rfl) (by kernel_rfl) (by show _ < 55; decide)
            obtain rfl : u45 = .string (bs ([1])) := g45
            have hap := HP4.out.1
            have hl := HP4.out.2
            exact Reg.Gives.value (v := .string (bs (q4))) (w' := wi) (by go_simp) (Reg.OwedH.same hI rfl)
          · obtain rfl := Option.some.inj ho
            intro ρ wi hE hI hs hd
            try dsimp only at hI
            have e0 : ρ (.tmp 0) = .slice (some ⟨b0, off, none⟩) l.length cap := hs 0 (by kernel_rfl)
            exact Reg.Gives.value (v := .slice (some ⟨b0, off, none⟩) l.length cap) (w' := wi) (by go_simp) (Reg.OwedH.same hI rfl)
          · obtain rfl := Option.some.inj ho
            intro ρ wi hE hI hs hd
            try dsimp only at hI
            have e4 : ρ (.tmp 4) = .int .i64 (k : Int) := hs 4 (by kernel_rfl)
            exact Reg.Gives.value (v := .int .i64 (k : Int)) (w' := wi) (by go_simp) (Reg.OwedH.same hI rfl)
          · obtain rfl := Option.some.inj ho
            intro ρ wi hE hI hs hd
            try dsimp only at hI
            obtain ⟨u47, g47, e47⟩ := hd 26 47 (by kernel_rfl) (by kernel_rfl) (by show _ < 55; decide)
            obtain rfl : u47 = .slice (some ⟨b0, off, none⟩) l.length cap := g47
            obtain ⟨u48, g48, e48⟩ := hd 27 48 (by kernel_rfl) (by kernel_rfl) (by show _ < 55; decide)
            obtain rfl : u48 = .int .i64 (k : Int) := g48
            exact Reg.Gives.value (v := .pointer (some ⟨b0, off + k * 5, none⟩)) (w' := wi) (by go_simp) (Reg.OwedH.same hI rfl)
          · obtain rfl := Option.some.inj ho
            intro ρ wi hE hI hs hd
            try dsimp only at hI
            obtain ⟨u49, g49, e49⟩ := hd 28 49 (by kernel_rfl) (by kernel_rfl) (by show _ < 55; decide)
            obtain rfl : u49 = .pointer (some ⟨b0, off + k * 5, none⟩) := g49
            exact Reg.Gives.value (v := .pointer (some ⟨b0, off + k * 5 + 4, none⟩)) (w' := wi) (by go_simp) (Reg.OwedH.same hI rfl)
          · obtain rfl := Option.some.inj ho
            intro ρ wi hE hI hs hd
            try dsimp only at hI
            obtain ⟨u50, g50, e50⟩ := hd 29 50 (by kernel_rfl) (by kernel_rfl) (by show _ < 55; decide)
            obtain rfl : u50 = .pointer (some ⟨b0, off + k * 5 + 4, none⟩) := g50
            have hx := (HIT.out.below hI HIT.out.lt).new
            exact Reg.Gives.value (v := .int .i64 n) (w' := wi) (by go_simp) (Reg.OwedH.same hI rfl)
          · obtain rfl := Option.some.inj ho
            intro ρ wi hE hI hs hd
            try dsimp only at hI
            obtain ⟨u51, g51, e51⟩ := hd 30 51 (by kernel_rfl) (by kernel_rfl) (by show _ < 55; decide)
            obtain rfl : u51 = .int .i64 n := g51
            have hf := hE.func
            refine Reg.Gives.call (f := 59) (args := #[.int .i64 n]) (w' := wi) (by go_simp) ?_
            refine (num_any n wi).mono ?_
            rintro e w'' ⟨rfl, hbb⟩
            exact ⟨_, rfl, ⟨rfl, hI.trans (hbb.mono hI.size), fun j u _ _ h => refItemsT_later hbb h⟩⟩
          · obtain rfl := Option.some.inj ho
            intro ρ wi hE hI hs hd
            try dsimp only at hI
            obtain ⟨u46, g46, e46⟩ := hd 25 46 (by kernel_rfl) (by kernel_rfl) (by show _ < 55; decide)
            obtain rfl : u46 = .string (bs (q4)) := g46
            obtain ⟨u52, g52, e52⟩ := hd 31 52 (by kernel_rfl) (by kernel_rfl) (by show _ < 55; decide)
            obtain rfl : u52 = .string (bs (big (u64 n) 8)) := g52
            have hap := HP5.out.1
            have hl := HP5.out.2
            exact Reg.Gives.value (v := .string (bs (q5))) (w' := wi) (by go_simp) (Reg.OwedH.same hI rfl)
          · obtain rfl := Option.some.inj ho
            intro ρ wi hE hI hs hd
            try dsimp only at hI
            obtain ⟨u53, g53, e53⟩ := hd 32 53 (by kernel_rfl) (by kernel_rfl) (by show _ < 55; decide)
            obtain rfl : u53 = .string (bs (q5)) := g53
            exact Reg.Gives.value (v := .string (bs (q5))) (w' := wi) (by go_simp) (Reg.OwedH.same hI rfl)
          · omega
        · intro V wz hV hI
          have hV33 : V 33 = .string (bs (q5)) := hV 33 (by decide) rfl
          simp only [Reg.putsO, List.foldl_cons, List.foldl_nil, Act.put, List.setIfInBounds_toArray, List.set_cons_succ, List.set_cons_zero, hV33]
          replace hI : (fun a => Below wr.heap.size wr a) wz := hI
          clear hV hV33
          have HIW := Lib.hid (HBR.out.trans (hI.mono HBR.out.size))
          clear hI
          go_wp2_with fail
          go_roundw
          case rel => exact ⟨k + 1, by omega, by go_num, by rw [HE.out], HIW.out⟩
          case measure => simp [intOf]; omega
    · have HF : Hid (itemsB l = big l.length 2 ++ (l.take k).flatMap itB) := Lib.hid (by rw [List.take_of_length_le (by omega)]; rfl)
      clear hbr
      go_wp2_with fail
      go_returns
      exact ⟨ret_val (by rw [HF.out]; rfl), HBR.out⟩
end Go.Proofs.Ytaekfbhkphlenaa.Item
