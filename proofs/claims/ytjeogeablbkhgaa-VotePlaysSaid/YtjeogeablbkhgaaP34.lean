/-
  Layer 19: part, State, Tid, Vote, GiveUp of a ballot.
  Conditions: none.
-/
import Derived.Test.YtjeogeablbkhgaaP33
import Derived.BigQuiet
namespace Go.Proofs.Ytjeogeablbkhgaa.Vot
set_option maxRecDepth 100000
open Go.RowKit Go.Deep Go.Proofs.Ytjeogeablbkhgaa.Mem Go.Proofs.Ytjeogeablbkhgaa.Item
section
variable {B T g c : Nat} {w w1 : World} {A : Option Addr} {t : Tid} {ab : Bool} {l : List Sd}
theorem take_more {α : Type} {l : List α} {k : Nat} (hk : k < l.length) {x : α} (hx : l[k] = x) : l.take (k + 1) = l.take k ++ [x] := by rw [List.take_succ_eq_append_getElem hk, hx]
/-- A part's copy in a new block. -/
theorem copy_said (w : World) (s : Sd) : Below w.heap.size w (w.alloc (.cells #[.int .i64 s.node, .slice s.A s.its.length s.c, .bool s.yes, .bool s.ack] 68)) ∧
  Cells (w.alloc (.cells #[.int .i64 s.node, .slice s.A s.its.length s.c, .bool s.yes, .bool s.ack] 68)) w.heap.size 68 s.vals := ⟨below_alloc _ _, cells_new _ _ _ _ rfl⟩
theorem State_any (h : CAt B T w g A c t ab l) : Calls Try.prog 19 #[.pointer (some ⟨g, 0, none⟩)] w fun e w' => e = .returned (.int .i64 (stC ab l)) ∧ Below w.heap.size w w' := by
 have c4 := h.box.cell (j := 4) rfl
 have c3 := h.box.cell (j := 3) rfl
 have hl := h.len
 obtain ⟨n, hn⟩ : ∃ n, l.length = n := ⟨_, rfl⟩
 rw [hn] at c3 hl
 have HN := Lib.hid hn
 obtain ⟨q, hq⟩ : ∃ q, stC ab l = q := ⟨_, rfl⟩
 have HQ := Lib.hid hq
 have HH := Lib.hid h
 rw [hq]
 clear hn hq h
 go_enter Try.func19, Try.ntmps19
 cases ab with
 | true =>
  have HZ : Hid (q = 2) := Lib.hid HQ.out.symm
  go_wp2_with fail
  go_returns
  exact ⟨ret_val (congrArg (Value.int .i64) HZ.out.symm), Below.refl _ _⟩
 | false =>
  go_wp2_with fail
  clear c3 c4
  go_loopw [4, 18] (fun _ i wr => ∃ k : Nat, k ≤ n ∧ i = .int .i64 (k : Int) ∧ Hid (∀ x ∈ l.take k, x.yes = true) ∧ Hid (Below w.heap.size w wr)) (fun _ i _ => n - (intOf i).toNat)
  case atStart => exact ⟨0, Nat.zero_le _, rfl, Lib.hid (fun x hx => by cases hx), Lib.hid (Below.refl _ _)⟩
  case round =>
   obtain ⟨k, hk, rfl, HT, HB⟩ := hrel
   by_cases hlt : k < n
   ·have hkl : k < l.length := by rw [HN.out]; exact hlt
    obtain ⟨p, rfl, hel⟩ := (HH.out.later HB.out).elem hkl
    have HM := Lib.hid (List.getElem_mem hkl)
    obtain ⟨s, hs⟩ : ∃ s, l[k] = s := ⟨_, rfl⟩
    have HTM := Lib.hid (take_more hkl hs)
    rw [hs] at hel HM
    have x0 : wr.cell? ⟨p, k * 4, none⟩ = _ := hel.cell (j := 0) rfl
    have x1 := hel.cell (j := 1) rfl
    have x2 := hel.cell (j := 2) rfl
    have x3 := hel.cell (j := 3) rfl
    obtain ⟨hbb, hcb⟩ := copy_said wr s
    obtain ⟨m, hm⟩ : ∃ m, s.its.length = m := ⟨_, rfl⟩
    rw [hm] at x1 hbb hcb
    obtain ⟨wb, hwb⟩ : ∃ W, W = wr.alloc (.cells #[.int .i64 s.node, .slice s.A m s.c, .bool s.yes, .bool s.ack] 68) := ⟨_, rfl⟩
    rw [← hwb] at hbb hcb
    have y2 := hcb.cell (j := 2) rfl
    have HB2 := Lib.hid (HB.out.trans (hbb.mono HB.out.size))
    clear hkl hel hs hbb hcb hm
    go_upto_region 6 with (fail)
    rw [← hwb]
    clear hwb x0 x1 x2 x3
    obtain ⟨sy, hsy⟩ : ∃ b, s.yes = b := ⟨_, rfl⟩
    rw [hsy] at y2
    have HSY := Lib.hid hsy
    clear hsy
    cases sy with
    | false =>
     have HZ : Hid (q = 0) := Lib.hid (by
      rw [← HQ.out]
      unfold stC allY
      have : l.all (·.yes) = false := by rw [List.all_eq_false]; exact ⟨s, HM.out, by rw [HSY.out]; decide⟩
      rw [this]
      rfl)
     clear HM
     go_wp2_with fail
     go_returns
     exact ⟨ret_val (congrArg (Value.int .i64) HZ.out.symm), HB2.out⟩
    | true =>
     have HT2 : Hid (∀ x ∈ l.take (k + 1), x.yes = true) := Lib.hid (by
      rw [HTM.out]
      intro x hx
      rcases List.mem_append.1 hx with hx | hx
      ·exact HT.out x hx
      ·rw [List.mem_singleton.1 hx]; exact HSY.out)
     clear HT HM
     go_wp2_with fail
     go_roundw
     case rel => exact ⟨k + 1, by omega, by go_num, HT2, HB2⟩
     case measure => simp [intOf]; omega
   ·obtain rfl : k = n := by omega
    have HZ : Hid (q = 1) := Lib.hid (by
     rw [← HQ.out]
     unfold stC allY
     have : l.all (·.yes) = true := by
      rw [List.all_eq_true]
      have h1 := HT.out
      rw [List.take_of_length_le (Nat.le_of_eq HN.out)] at h1
      exact h1
     rw [this]
     rfl)
    go_wp2_with fail
    go_returns
    exact ⟨ret_val (congrArg (Value.int .i64) HZ.out.symm), HB.out⟩
/-- What the part of a node is at. -/
def PartOut (A : Option Addr) (l : List Sd) (n : Int) (v : Value) : Prop := (hasN n l = false ∧ v = .pointer none) ∨ ∃ (k : Nat) (hk : k < l.length) (p : Nat), l[k].node = n ∧ A = some ⟨p, 0, none⟩ ∧ v = .pointer (some ⟨p, k * 4, none⟩)
theorem part_any (h : CAt B T w g A c t ab l) (n : Int) : Calls Try.prog 34 #[.pointer (some ⟨g, 0, none⟩), .int .i64 n] w fun e w' => (∃ v, e = .returned v ∧ PartOut A l n v) ∧ Below w.heap.size w w' := by
 have c3 := h.box.cell (j := 3) rfl
 have hl := h.len
 obtain ⟨m, hm⟩ : ∃ m, l.length = m := ⟨_, rfl⟩
 rw [hm] at c3 hl
 have HN := Lib.hid hm
 have HH := Lib.hid h
 have hcap : A = none → m = 0 := fun e => by
  have h1 := h.row
  subst e
  rcases h1.2 with ⟨_, e2⟩ | ⟨_, _, _, e2, _⟩
  ·rw [← hm]; exact e2
  ·cases e2
 have HP : Hid (PartOut A l n = PartOut A l n) := Lib.hid rfl
 clear hm h
 go_enter Try.func34, Try.ntmps34
 go_wp2_with fail
 go_loopw [5, 6, 12] (fun _ _ i wr => ∃ k : Nat, k ≤ m ∧ i = .int .i64 (k : Int) ∧ Hid (∀ x ∈ l.take k, x.node ≠ n) ∧ Hid (Below w.heap.size w wr)) (fun _ _ i _ => m - (intOf i).toNat)
 case atStart => exact ⟨0, Nat.zero_le _, rfl, Lib.hid (fun x hx => by cases hx), Lib.hid (Below.refl _ _)⟩
 case round =>
  obtain ⟨k, hk, rfl, HT, HB⟩ := hrel
  clear c3
  by_cases hlt : k < m
  ·have hkl : k < l.length := by rw [HN.out]; exact hlt
   have hh := HH.out.later HB.out
   have c3 := hh.box.cell (j := 3) rfl
   rw [HN.out] at c3
   obtain ⟨p, rfl, hel⟩ := hh.elem hkl
   obtain ⟨s, hs⟩ : ∃ s, l[k] = s := ⟨_, rfl⟩
   have HTM := Lib.hid (take_more hkl hs)
   have HS := Lib.hid (show ∃ hk : k < l.length, l[k] = s from ⟨hkl, hs⟩)
   rw [hs] at hel
   have x0 : wr.cell? ⟨p, k * 4, none⟩ = _ := hel.cell (j := 0) rfl
   have hpl := hel.lt
   clear hkl hel hs hh
   by_cases he : s.node = n
   ·have e1 : (s.node == n) = true := by simpa using he
    have HE := Lib.hid he
    clear he
    go_wp2_with fail
    go_returns
    obtain ⟨hk', e'⟩ := HS.out
    exact ⟨⟨_, rfl, Or.inr ⟨k, hk', p, by rw [e']; exact HE.out, rfl, rfl⟩⟩, HB.out⟩
   ·have e1 : (s.node == n) = false := by simpa using he
    have HT2 : Hid (∀ x ∈ l.take (k + 1), x.node ≠ n) := Lib.hid (by
     rw [HTM.out]
     intro x hx
     rcases List.mem_append.1 hx with hx | hx
     ·exact HT.out x hx
     ·rw [List.mem_singleton.1 hx]; exact he)
    clear HT he
    go_wp2_with fail
    go_roundw
    case rel => exact ⟨k + 1, by omega, by go_num, HT2, HB⟩
    case measure => simp [intOf]; omega
  ·obtain rfl : k = m := by omega
   have HZ : Hid (hasN n l = false) := Lib.hid (by
    have h1 := HT.out
    rw [List.take_of_length_le (Nat.le_of_eq HN.out)] at h1
    unfold hasN
    rw [List.any_eq_false]
    intro x hx
    simpa using h1 x hx)
   go_wp2_with fail
   go_returns
   exact ⟨⟨_, rfl, Or.inl ⟨HZ.out, rfl⟩⟩, HB.out⟩
end
end Go.Proofs.Ytjeogeablbkhgaa.Vot
