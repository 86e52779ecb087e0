/-
  What the document's own answers of layer 2 (wire) come to: numbers as bytes, things as bytes, and back. Conditions: none.
-/
import Derived.Test.YtbjjkbaigpophaaMem
import Derived.Test.YtbjjkbaigpophaaRows
import Derived.Test.YtbjjkbaigpophaaReg
import Derived.OpenShut
import Derived.WalkLawsBesides
import Derived.WalkSpells
import Derived.Handy
import Derived.Lib.Hide
import Derived.Deep.OwnRows
import Derived.Deep.RegionWith
namespace Go.Proofs.Ytbjjkbaigpophaa.Wire
open Go.RowKit Go.Proofs.Ytbjjkbaigpophaa.Mem

/-- A number's k lowest bytes, the highest first. -/
def big (n : Nat) : Nat → List UInt8
  | 0 => []
  | k + 1 => UInt8.ofNat (n / 256 ^ k) :: big n k
theorem big_length (n k : Nat) : (big n k).length = k := by
  induction k with
  | zero => rfl
  | succ k ih => rw [big, List.length_cons, ih]

theorem infoByte : (Try.prog.info? 5).map (fun i => (i.zero, i.size, i.bytes)) = some (some (.int .u8 0), 1, 1) := by kernel_rfl

theorem byte_of (n k : Nat) : ((n / 256 ^ k : Nat) : Int) % 256 = ((UInt8.ofNat (n / 256 ^ k)).toNat : Int) := by
  have e : (UInt8.ofNat (n / 256 ^ k)).toNat = n / 256 ^ k % 256 := by rw [UInt8.toNat_ofNat']
  rw [e]; rfl

theorem set_zero (j : Nat) (a x : Value) (l : List Value) : (List.replicate (j + 1) a ++ l).set j x = List.replicate j a ++ x :: l := by
  rw [List.replicate_succ', List.append_assoc, List.set_append_right _ _ (by simp)]
  simp

set_option maxHeartbeats 1000000 in
theorem big_any (n size : Nat) (w : World) (hn : n < 18446744073709551616) (hs : size ≤ 100) :
    Calls Try.prog 25 #[.int .u64 (n : Int), .int .i64 (size : Int)] w fun e w' => e = .returned (.string ⟨(big n size).toArray⟩) ∧ Below w.heap.size w w' := by
  have hmk := run_make_row' (P := Try.prog) 25 5 (.int .u8 0) 1 Try.underlying25 infoByte rfl .i64 .i64 size (by omega) (by omega)
  have hc0 : Cells (w.alloc (.cells (madeCells #[.int .u8 0] size) 5)) w.heap.size 5 (List.replicate size (bv 0) ++ (big n 0).map bv) :=
    cells_new w _ _ _ (by rw [toList_madeCells_one]; simp [big, bv])
  have HC := Lib.hid hc0
  clear hc0
  go_enter Try.func25, Try.ntmps25
  go_wp2_with fail
  clear hmk
  go_loopw [0, 6] (fun m i wr => ∃ j : Nat, j ≤ size ∧ i = .int .i64 ((j : Int) - 1) ∧ m = .int .u64 ((n / 256 ^ (size - j) : Nat) : Int) ∧ Cells wr w.heap.size 5 (List.replicate j (bv 0) ++ (big n (size - j)).map bv) ∧ Below w.heap.size w wr) (fun _ i _ => (intOf i + 1).toNat)
  case atStart => exact ⟨size, Nat.le_refl _, rfl, by rw [Nat.sub_self]; simp, by rw [Nat.sub_self]; exact HC.out, below_alloc _ _⟩
  case round =>
    obtain ⟨j, hj, rfl, rfl, hc, hb⟩ := hrel
    cases j with
    | zero =>
      rw [Nat.sub_zero] at hc
      have hback := string_back (P := Try.prog) (cap := size) Try.underlying25 Try.underlying5 Try.underlying9 hc (big_length n size)
      go_wp2
      go_ret
      exact ⟨rfl, hb⟩
    | succ j =>
      rw [show (((j + 1 : Nat) : Int) - 1) = (j : Int) by omega]
      have hlt : n / 256 ^ (size - (j + 1)) < 18446744073709551616 := Nat.lt_of_le_of_lt (Nat.div_le_self _ _) hn
      have hcell := hc.cell (j := j) (u := bv 0) (by rw [List.getElem?_append_left (by rw [List.length_replicate]; omega)]; simp)
      have hfz := hc.frozen (j := j) (by simp; omega)
      generalize hm : n / 256 ^ (size - (j + 1)) = m
      have HM := Lib.hid hm
      have HCC := Lib.hid hc
      have HB := Lib.hid hb
      rw [hm] at hlt
      unfold bv at hcell
      clear hm hc hb
      go_wp2
      go_roundw
      case rel =>
        have hb' : ((m : Nat) : Int) % 256 = ((UInt8.ofNat m).toNat : Int) := by
          have e : (UInt8.ofNat m).toNat = m % 256 := by rw [UInt8.toNat_ofNat']
          rw [e]; rfl
        refine ⟨j, by omega, rfl, ?_, ?_, HB.out.setCell (Nat.le_refl _) _⟩
        · rw [show size - j = size - (j + 1) + 1 by omega, Nat.pow_succ, ← Nat.div_div_eq_div_mul, HM.out]; rfl
        · have h := HCC.out.set_ j (bv (UInt8.ofNat m))
          rw [set_zero] at h
          rw [show size - j = size - (j + 1) + 1 by omega, big, HM.out, hb', List.map_cons]
          exact h
      case measure => simp [intOf]

/-- A thing: its kind, its number, its text. -/
structure Th where
  k : Int
  n : Int
  s : ByteArray
def Th.val (t : Th) : Value := .agg #[.int .i64 t.k, .int .i64 t.n, .string t.s]
def Th.ok (t : Th) : Prop := (-9223372036854775808 ≤ t.k ∧ t.k ≤ 9223372036854775807) ∧ (-9223372036854775808 ≤ t.n ∧ t.n ≤ 9223372036854775807) ∧ t.s.size ≤ 140737488355328
def th0 : Th := ⟨0, 0, ⟨#[]⟩⟩
/-- A number's 64 bits. -/
def u64 (n : Int) : Nat := (n % 18446744073709551616).toNat
theorem u64_lt (n : Int) : u64 n < 18446744073709551616 := by unfold u64; omega
theorem u64_cast (n : Int) : ((u64 n : Nat) : Int) = n % 18446744073709551616 := by unfold u64; omega

/-- A thing's bytes; none: it can't be put. -/
def putB (t : Th) : Option (List UInt8) :=
  if t.k = 0 then some [UInt8.ofNat (u64 t.n)]
  else if t.k = 1 then (if t.n = 1 then some (big 1 1) else some (big 0 1))
  else if t.k = 2 then (if t.n < 0 ∨ 65535 < t.n then none else some (big (u64 t.n) 2))
  else if t.k = 3 then some (big (u64 t.n) 8)
  else if 65535 < t.s.size then none else some (big t.s.size 2 ++ t.s.data.toList)

/-- What Put answers. -/
def putV (t : Th) : Value := match putB t with
  | some l => .tuple #[.string ⟨l.toArray⟩, .bool true]
  | none => .tuple #[.string ⟨#[]⟩, .bool false]

theorem byte_u64 (n : Int) : n % 256 = ((UInt8.ofNat (u64 n)).toNat : Int) := by
  have e : (UInt8.ofNat (u64 n)).toNat = u64 n % 256 := by rw [UInt8.toNat_ofNat']
  rw [e]
  unfold u64
  omega

/-- What is good of each value of the last statement of Put. -/
def good (s : ByteArray) (g : Nat) : Nat → Value → World → Prop
  | 0, v, _ => v = .pointer (some ⟨g, 2, none⟩)
  | 1, v, _ => v = .string s
  | 2, v, _ => v = .int .i64 (s.size : Int)
  | 3, v, _ => v = .int .u64 (s.size : Int)
  | 4, v, _ => v = .string ⟨(big s.size 2).toArray⟩
  | 5, v, _ => v = .pointer (some ⟨g, 2, none⟩)
  | 6, v, _ => v = .string s
  | 7, v, _ => v = .string ⟨(big s.size 2 ++ s.data.toList).toArray⟩
  | 8, v, _ => v = .string ⟨(big s.size 2 ++ s.data.toList).toArray⟩
  | _, v, _ => v = .bool true
theorem good_any {s : ByteArray} {g j : Nat} {v : Value} {w w' : World} (h : good s g j v w) : good s g j v w' := by
  match j, h with
  | 0, h | 1, h | 2, h | 3, h | 4, h | 5, h | 6, h | 7, h | 8, h => exact h
  | _ + 9, h => exact h

set_option maxHeartbeats 1000000 in
theorem put_any (t : Th) (w : World) (ht : t.ok) :
    Calls Try.prog 11 #[t.val] w fun e w' => e = .returned (putV t) ∧ Below w.heap.size w w' := by
  obtain ⟨k, n, s⟩ := t
  obtain ⟨⟨hk1, hk2⟩, ⟨hn1, hn2⟩, hs⟩ := ht
  simp only at hk1 hk2 hn1 hn2 hs
  have hbox : Below w.heap.size w (w.alloc (.cells #[.int .i64 k, .int .i64 n, .string s] 29)) := below_alloc _ _
  have hbs := hbox.size
  by_cases h0 : k = 0
  · subst h0
    have hfin : putV ⟨0, n, s⟩ = .tuple #[.string ⟨[UInt8.ofNat (u64 n)].toArray⟩, .bool true] := by simp [putV, putB]
    have hb2 := hbox.alloc hbs (.cells #[.int .u8 (n % 256)] 5)
    have hc : Cells ((w.alloc (.cells #[.int .i64 0, .int .i64 n, .string s] 29)).alloc (.cells #[.int .u8 (n % 256)] 5)) (w.heap.size + 1) 5 ([UInt8.ofNat (u64 n)].map bv) := by
      have h := cells_new (w.alloc (.cells #[.int .i64 0, .int .i64 n, .string s] 29)) 5 ([UInt8.ofNat (u64 n)].map bv) #[.int .u8 (n % 256)] (by show [Value.int .u8 (n % 256)] = [bv _]; unfold bv; rw [← byte_u64])
      rw [World.size_alloc] at h
      exact h
    have hback := string_back (P := Try.prog) (cap := 1) (n := 1) Try.underlying25 Try.underlying5 Try.underlying9 hc rfl
    have HF := Lib.hid hfin
    have HB := Lib.hid hb2
    clear hfin hb2 hc hbox hbs
    unfold Th.val
    go_enter Try.func11, Try.ntmps11
    go_wp2
    go_ret2
    exact ⟨ret_val HF.out.symm, HB.out⟩
  by_cases h1 : k = 1
  · subst h1
    by_cases hn : n = 1
    · subst hn
      have HF := Lib.hid (show putV ⟨1, 1, s⟩ = .tuple #[.string ⟨(big 1 1).toArray⟩, .bool true] by simp [putV, putB])
      have HB := Lib.hid hbox
      clear hbox h0
      unfold Th.val
      go_enter Try.func11, Try.ntmps11
      go_wp2_with fail
      refine (big_any 1 1 _ (by omega) (by omega)).mono ?_
      rintro e w1 ⟨rfl, hb⟩
      have hb3 := HB.out.trans (hb.mono hbs)
      go_wp2_with fail
      go_ret2
      exact ⟨ret_val HF.out.symm, hb3⟩
    · have HF := Lib.hid (show putV ⟨1, n, s⟩ = .tuple #[.string ⟨(big 0 1).toArray⟩, .bool true] by simp [putV, putB, hn])
      have HB := Lib.hid hbox
      have hnb : (n == 1) = false := by simpa using hn
      clear hbox h0 hn
      unfold Th.val
      go_enter Try.func11, Try.ntmps11
      go_wp2_with fail
      refine (big_any 0 1 _ (by omega) (by omega)).mono ?_
      rintro e w1 ⟨rfl, hb⟩
      have hb3 := HB.out.trans (hb.mono hbs)
      go_wp2_with fail
      go_ret2
      exact ⟨ret_val HF.out.symm, hb3⟩
  by_cases h2 : k = 2
  · subst h2
    by_cases hn : n < 0 ∨ 65535 < n
    · have HF := Lib.hid (show putV ⟨2, n, s⟩ = .tuple #[.string ⟨#[]⟩, .bool false] by simp [putV, putB, hn])
      have HB := Lib.hid hbox
      clear hbox h0 h1
      by_cases hn3 : n < 0
      · clear hn
        unfold Th.val
        go_enter Try.func11, Try.ntmps11
        go_wp2
        go_ret2
        exact ⟨ret_val HF.out.symm, HB.out⟩
      · have hn4 : 65535 < n := by omega
        clear hn
        unfold Th.val
        go_enter Try.func11, Try.ntmps11
        go_wp2
        go_ret2
        exact ⟨ret_val HF.out.symm, HB.out⟩
    · obtain ⟨m, rfl⟩ := Int.eq_ofNat_of_zero_le (show 0 ≤ n by omega)
      have HF := Lib.hid (show putV ⟨2, (m : Int), s⟩ = .tuple #[.string ⟨(big m 2).toArray⟩, .bool true] by
        have e : u64 (m : Int) = m := by unfold u64; omega
        simp [putV, putB, hn, e])
      have HB := Lib.hid hbox
      have hhi : m ≤ 65535 := by omega
      clear hbox h0 h1 hn
      unfold Th.val
      go_enter Try.func11, Try.ntmps11
      go_wp2_with fail
      refine (big_any m 2 _ (by omega) (by omega)).mono ?_
      rintro e w1 ⟨rfl, hb⟩
      have hb3 := HB.out.trans (hb.mono hbs)
      go_wp2_with fail
      go_ret2
      exact ⟨ret_val HF.out.symm, hb3⟩
  by_cases h3 : k = 3
  · subst h3
    have HF := Lib.hid (show putV ⟨3, n, s⟩ = .tuple #[.string ⟨(big (u64 n) 8).toArray⟩, .bool true] by simp [putV, putB])
    have HB := Lib.hid hbox
    have HU := Lib.hid (u64_cast n)
    clear hbox h0 h1 h2
    unfold Th.val
    go_enter Try.func11, Try.ntmps11
    go_wp2_with fail
    rw [IntKind.wrap_u64, ← HU.out]
    refine (big_any (u64 n) 8 _ (u64_lt n) (by omega)).mono ?_
    rintro e w1 ⟨rfl, hb⟩
    have hb3 := HB.out.trans (hb.mono hbs)
    go_wp2_with fail
    go_ret2
    exact ⟨ret_val HF.out.symm, hb3⟩
  have hk0 : (k == 0) = false := by simpa using h0
  have hk1' : (k == 1) = false := by simpa using h1
  have hk2' : (k == 2) = false := by simpa using h2
  have hk3' : (k == 3) = false := by simpa using h3
  by_cases hz : 65535 < s.size
  · have HF := Lib.hid (show putV ⟨k, n, s⟩ = .tuple #[.string ⟨#[]⟩, .bool false] by simp [putV, putB, h0, h1, h2, h3, hz])
    have HB := Lib.hid hbox
    clear hbox h0 h1 h2 h3
    unfold Th.val
    go_enter Try.func11, Try.ntmps11
    go_wp2
    go_ret2
    exact ⟨ret_val HF.out.symm, HB.out⟩
  · have HF := Lib.hid (show putV ⟨k, n, s⟩ = .tuple #[.string ⟨(big s.size 2 ++ s.data.toList).toArray⟩, .bool true] by simp [putV, putB, h0, h1, h2, h3, hz])
    have HB := Lib.hid hbox
    have HW := Lib.hid (show IntKind.u64.wrap (s.size : Int) = (s.size : Int) by rw [IntKind.wrap_u64]; omega)
    have HN := Lib.hid (show s.size < 18446744073709551616 by omega)
    have HA := Lib.hid (bytes_app (big s.size 2) s)
    have HL := Lib.hid (big_length s.size 2)
    have HQ := Lib.hid (show 2 + s.size ≤ 9223372036854775807 by omega)
    have HC2 : Hid ((w.alloc (.cells #[.int .i64 k, .int .i64 n, .string s] 29)).drew.cell? ⟨w.heap.size, 2, none⟩ = some (.string s)) := Lib.hid (cell_of_row _ _ 2 _ _ _ (heap_alloc_new w _))
    have HS0 : Hid (∀ {wi : World}, Below (w.heap.size + 1) (w.alloc (.cells #[.int .i64 k, .int .i64 n, .string s] 29)).drew wi → w.heap.size + 1 ≤ wi.heap.size) := Lib.hid (fun h => by
      have h1 := h.size
      have h2 : (w.alloc (.cells #[.int .i64 k, .int .i64 n, .string s] 29)).drew.heap.size = w.heap.size + 1 := World.size_alloc ..
      omega)
    clear hbox h0 h1 h2 h3
    unfold Th.val
    go_enter Try.func11, Try.ntmps11
    go_wp2_with fail
    refine Reg.region (by kernel_rfl) [8, 9] (good s w.heap.size) (Below (w.heap.size + 1)) (by kernel_rfl) (by kernel_rfl) (Below.refl _) (fun _ _ _ h k => h.trans k) ?_ ?_
    · intro i o ho
      have hi : i < 10 := (Array.getElem?_eq_some_iff.1 ho).1
      rcases i with _ | _ | _ | _ | _ | _ | _ | _ | _ | _ | i
      · obtain rfl := Option.some.inj ho
        intro ρ wi hE hL hs hd
        have e1 : ρ (.tmp 1) = .pointer (some ⟨w.heap.size, 0, none⟩) := hs 1 (by kernel_rfl)
        exact Reg.Gives.value (v := .pointer (some ⟨w.heap.size, 2, none⟩)) (w' := wi) (by go_simp) (Reg.Res.same (Below.refl _) rfl)
      · obtain rfl := Option.some.inj ho
        intro ρ wi hE hL hs hd
        obtain ⟨u46, g46, e46⟩ := hd 0 46 (by kernel_rfl) (by kernel_rfl) (by show _ < 54; decide)
        obtain rfl : u46 = .pointer (some ⟨w.heap.size, 2, none⟩) := g46
        have hc := (hL.cell (p := ⟨w.heap.size, 2, none⟩) (Nat.lt_succ_self _)).trans HC2.out
        exact Reg.Gives.value (v := .string s) (w' := wi) (by go_simp) (Reg.Res.same (Below.refl _) rfl)
      · obtain rfl := Option.some.inj ho
        intro ρ wi hE hL hs hd
        obtain ⟨u47, g47, e47⟩ := hd 1 47 (by kernel_rfl) (by kernel_rfl) (by show _ < 54; decide)
        obtain rfl : u47 = .string s := g47
        exact Reg.Gives.value (v := .int .i64 (s.size : Int)) (w' := wi) (by go_simp) (Reg.Res.same (Below.refl _) rfl)
      · obtain rfl := Option.some.inj ho
        intro ρ wi hE hL hs hd
        obtain ⟨u48, g48, e48⟩ := hd 2 48 (by kernel_rfl) (by kernel_rfl) (by show _ < 54; decide)
        obtain rfl : u48 = .int .i64 (s.size : Int) := g48
        have hw := HW.out
        exact Reg.Gives.value (v := .int .u64 (s.size : Int)) (w' := wi) (by go_simp) (Reg.Res.same (Below.refl _) rfl)
      · obtain rfl := Option.some.inj ho
        intro ρ wi hE hL hs hd
        obtain ⟨u49, g49, e49⟩ := hd 3 49 (by kernel_rfl) (by kernel_rfl) (by show _ < 54; decide)
        obtain rfl : u49 = .int .u64 (s.size : Int) := g49
        have hc := hE.const
        have hf := hE.func
        have hsz : w.heap.size + 1 ≤ wi.heap.size := HS0.out hL
        refine Reg.Gives.call (f := 25) (args := #[.int .u64 (s.size : Int), .int .i64 2]) (w' := wi) (by go_simp) ?_
        refine (big_any s.size 2 wi HN.out (by omega)).mono ?_
        rintro e w'' ⟨rfl, hbb⟩
        exact ⟨_, rfl, rfl, hbb.mono hsz, fun j u _ _ h => good_any h⟩
      · obtain rfl := Option.some.inj ho
        intro ρ wi hE hL hs hd
        have e1 : ρ (.tmp 1) = .pointer (some ⟨w.heap.size, 0, none⟩) := hs 1 (by kernel_rfl)
        exact Reg.Gives.value (v := .pointer (some ⟨w.heap.size, 2, none⟩)) (w' := wi) (by go_simp) (Reg.Res.same (Below.refl _) rfl)
      · obtain rfl := Option.some.inj ho
        intro ρ wi hE hL hs hd
        obtain ⟨u51, g51, e51⟩ := hd 5 51 (by kernel_rfl) (by kernel_rfl) (by show _ < 54; decide)
        obtain rfl : u51 = .pointer (some ⟨w.heap.size, 2, none⟩) := g51
        have hc := (hL.cell (p := ⟨w.heap.size, 2, none⟩) (Nat.lt_succ_self _)).trans HC2.out
        exact Reg.Gives.value (v := .string s) (w' := wi) (by go_simp) (Reg.Res.same (Below.refl _) rfl)
      · obtain rfl := Option.some.inj ho
        intro ρ wi hE hL hs hd
        obtain ⟨u50, g50, e50⟩ := hd 4 50 (by kernel_rfl) (by kernel_rfl) (by show _ < 54; decide)
        obtain rfl : u50 = .string ⟨(big s.size 2).toArray⟩ := g50
        obtain ⟨u52, g52, e52⟩ := hd 6 52 (by kernel_rfl) (by kernel_rfl) (by show _ < 54; decide)
        obtain rfl : u52 = .string s := g52
        have hw := HA.out
        have hl := HL.out
        have hq := HQ.out
        exact Reg.Gives.value (v := .string ⟨(big s.size 2 ++ s.data.toList).toArray⟩) (w' := wi) (by go_simp) (Reg.Res.same (Below.refl _) rfl)
      · obtain rfl := Option.some.inj ho
        intro ρ wi hE hL hs hd
        obtain ⟨u53, g53, e53⟩ := hd 7 53 (by kernel_rfl) (by kernel_rfl) (by show _ < 54; decide)
        obtain rfl : u53 = .string ⟨(big s.size 2 ++ s.data.toList).toArray⟩ := g53
        exact Reg.Gives.value (v := .string ⟨(big s.size 2 ++ s.data.toList).toArray⟩) (w' := wi) (by go_simp) (Reg.Res.same (Below.refl _) rfl)
      · obtain rfl := Option.some.inj ho
        intro ρ wi hE hL hs hd
        have hc := hE.const
        exact Reg.Gives.value (v := .bool true) (w' := wi) (by go_simp) (Reg.Res.same (Below.refl _) rfl)
      · omega
    · intro V w' hV hL
      have h8 : V 8 = .string ⟨(big s.size 2 ++ s.data.toList).toArray⟩ := hV 8 (by decide) rfl
      have h9 : V 9 = .bool true := hV 9 (by decide) rfl
      go_wp2_with fail
      go_ret2
      exact ⟨ret_val ((tuple2 ((Reg.end_slot 8 2 (by kernel_rfl) (by kernel_rfl) (by show _ < 54; decide) (by show _ < 10; decide)).trans h8) ((Reg.end_slot 9 3 (by kernel_rfl) (by kernel_rfl) (by show _ < 54; decide) (by show _ < 10; decide)).trans h9)).trans HF.out.symm), HB.out.drew.trans (hL.mono (Nat.le_succ _))⟩

/-- Bytes as a number, the highest first. -/
def valN (l : List UInt8) : Nat := l.foldl (fun n b => n * 256 + b.toNat) 0
theorem valN_snoc (l : List UInt8) (b : UInt8) : valN (l ++ [b]) = valN l * 256 + b.toNat := by unfold valN; rw [List.foldl_append]; rfl
theorem valN_lt (l : List UInt8) : valN l < 256 ^ l.length := by
  have h : ∀ (r : List UInt8), valN r.reverse < 256 ^ r.length := by
    intro r
    induction r with
    | nil => simp [valN]
    | cons b r ih =>
      rw [List.reverse_cons, valN_snoc, List.length_cons, Nat.pow_succ]
      have := b.toNat_lt
      omega
  have := h l.reverse
  simpa using this
theorem valN_small (l : List UInt8) (k : Nat) (h : l.length ≤ k) : valN l < 256 ^ k := Nat.lt_of_lt_of_le (valN_lt l) (Nat.pow_le_pow_right (by omega) h)

theorem take_snoc (s : ByteArray) (k : Nat) (h : k < s.size) : s.data.toList.take (k + 1) = s.data.toList.take k ++ [s[k]] := by
  rw [List.take_succ_eq_append_getElem (by simpa using h)]; rfl

set_option maxHeartbeats 1000000 in
theorem value_any (s : ByteArray) (w : World) (hs : s.size ≤ 8) :
    Calls Try.prog 31 #[.string s] w fun e w' => e = .returned (.int .u64 (valN s.data.toList : Nat)) ∧ w = w' := by
  go_enter Try.func31, Try.ntmps31
  go_wp2
  go_loop [3, 4] (fun n i => ∃ k : Nat, k ≤ s.size ∧ i = .int .i64 k ∧ n = .int .u64 (valN (s.data.toList.take k) : Nat)) (fun _ i => s.size - (intOf i).toNat)
  case atStart => exact ⟨0, Nat.zero_le _, rfl, rfl⟩
  case round =>
    obtain ⟨k, hk, rfl, rfl⟩ := hrel
    by_cases hlt : k < s.size
    · have H1 := Lib.hid (take_snoc s k hlt)
      have hv : valN (s.data.toList.take k) < 72057594037927936 := by
        have h := valN_small (s.data.toList.take k) 7 (by rw [List.length_take]; omega)
        have e : 256 ^ 7 = 72057594037927936 := by decide
        omega
      have hb := s[k].toNat_lt
      generalize hm : valN (s.data.toList.take k) = m at hv
      have HM := Lib.hid hm
      clear hm
      go_wp2
      go_round
      case rel => exact ⟨k + 1, by omega, by go_num, by rw [H1.out, valN_snoc, HM.out]; go_num⟩
      case measure => simp [intOf]; omega
    · go_wp2
      go_ret
      exact ⟨ret_int (by rw [List.take_of_length_le (by simp; omega)]), rfl⟩
end Go.Proofs.Ytbjjkbaigpophaa.Wire
