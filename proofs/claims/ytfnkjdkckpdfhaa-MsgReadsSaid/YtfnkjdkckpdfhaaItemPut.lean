/-
  Layer 6: names, items and nodes as bytes: what a writer has when they are put. Conditions: none.
-/
import Derived.Test.YtfnkjdkckpdfhaaItemMem
import Derived.Test.YtfnkjdkckpdfhaaWr
import Derived.Test.YtfnkjdkckpdfhaaReg4
namespace Go.Proofs.Ytfnkjdkckpdfhaa.Item
open Go.RowKit Go.Proofs.Ytfnkjdkckpdfhaa.Mem Go.Proofs.Ytfnkjdkckpdfhaa.Wire

/-- Bytes as a text. -/
def bs (l : List UInt8) : ByteArray := ⟨l.toArray⟩
theorem bs_size (l : List UInt8) : (bs l).size = l.length := by unfold bs; show l.toArray.size = _; simp
theorem bs_list (l : List UInt8) : (bs l).data.toList = l := by unfold bs; simp
theorem bs_app (l m : List UInt8) : bs l ++ bs m = bs (l ++ m) := bytes_app l (bs m) |>.trans (by rw [bs_list]; rfl)
/-- A name's bytes. -/
def tidB (t : Tid) : List UInt8 := nums [t.node, t.epoch, t.seq]
def itB (x : It) : List UInt8 := nums [x.cell, x.version, x.value] ++ ([if x.write then 1 else 0] ++ nums [x.new])
def itemsB (l : List It) : List UInt8 := big l.length 2 ++ l.flatMap itB
def nodesB (l : List Int) : List UInt8 := big l.length 2 ++ nums l
theorem tidB_length (t : Tid) : (tidB t).length = 24 := by unfold tidB; rw [nums_length]; rfl
theorem itB_length (x : It) : (itB x).length = 33 := by unfold itB; simp [nums_length]

def wTid (a b c : Int) (g k0 s : Nat) : Nat → Value → World → Prop
  | 0, v, _ => v = .pointer (some ⟨g, 0, none⟩)
  | 1, v, _ => v = .pointer (some ⟨g, 0, none⟩)
  | 2, v, _ => v = .pointer (some ⟨g, 0, none⟩)
  | 3, v, _ => v = .pointer (some ⟨s, 0, none⟩)
  | 4, v, _ => v = .int .i64 a
  | 5, v, _ => v = .pointer (some ⟨s, 1, none⟩)
  | 6, v, _ => v = .int .i64 b
  | 7, v, _ => v = .pointer (some ⟨s, 2, none⟩)
  | 8, v, _ => v = .int .i64 c
  | 9, v, w => ∃ k, v = .slice (some ⟨k, 0, none⟩) 3 3 ∧ Cells w k 3 ([a, b, c].map (Value.int .i64)) ∧ k0 ≤ k
  | 10, v, _ => v = .tuple #[]
  | _, _, _ => True
theorem wTid_later {a b c : Int} {g k0 s : Nat} {j : Nat} {v : Value} {w w' : World} (hb : Below w.heap.size w w') (h : wTid a b c g k0 s j v w) : wTid a b c g k0 s j v w' := by
  match j, h with
  | 0, h | 1, h | 2, h | 3, h | 4, h | 5, h | 6, h | 7, h | 8, h | 10, h => exact h
  | 9, h =>
    obtain ⟨k, h1, h2, h3⟩ := h
    exact ⟨k, h1, h2.later hb, h3⟩
  | _ + 11, _ => exact trivial
theorem wTid_keep {a b c : Int} {g k0 s : Nat} {j : Nat} {v : Value} {w w' : World} (h9 : j ≠ 9) (h : wTid a b c g k0 s j v w) : wTid a b c g k0 s j v w' := by
  match j, h with
  | 0, h | 1, h | 2, h | 3, h | 4, h | 5, h | 6, h | 7, h | 8, h | 10, h => exact h
  | 9, _ => exact absurd rfl h9
  | _ + 11, _ => exact trivial
set_option maxHeartbeats 1000000 in
theorem wTid_any (t : Tid) (w : World) (base g : Nat) (r : Option Nat) (st : Option (List UInt8)) (h : Wr w base g r st) (hl : (st.getD []).length ≤ 900000000) :
    Calls Try.prog 42 #[.pointer (some ⟨g, 0, none⟩), t.val] w fun e w' => e = .returned (.tuple #[]) ∧ ∃ r', Wr w' base g r' (st.map (· ++ tidB t)) ∧ Turn w w' g r r' := by
  obtain ⟨a, b, c⟩ := t
  have hlt := h.lt
  obtain ⟨w2, hw2⟩ : ∃ w2, w2 = w.alloc (.cells #[.int .i64 a, .int .i64 b, .int .i64 c] 23) := ⟨_, rfl⟩
  have hb2 := below_alloc w (.cells #[.int .i64 a, .int .i64 b, .int .i64 c] 23)
  have hca := cells_new w 23 [.int .i64 a, .int .i64 b, .int .i64 c] #[.int .i64 a, .int .i64 b, .int .i64 c] rfl
  rw [← hw2] at hb2 hca
  have HW := Lib.hid (h.later hb2)
  have HLT := Lib.hid (HW.out.lt)
  have HB2 := Lib.hid hb2
  have HA : Hid (∀ wi, Below w2.heap.size w2 wi → ∀ j u, [Value.int .i64 a, .int .i64 b, .int .i64 c][j]? = some u → wi.cell? ⟨w.heap.size, j, none⟩ = some u) := Lib.hid fun wi hb j u hu => (hca.later hb).cell hu
  have HTB := Lib.hid (show tidB ⟨a, b, c⟩ = nums [a, b, c] from rfl)
  clear h hb2 hca hlt
  unfold Tid.val
  go_enter Try.func42, Try.ntmps42
  go_wp2_with fail
  rw [← hw2]
  clear hw2
  refine Reg.region_heavy (by kernel_rfl) 10 [] (wTid a b c g w2.heap.size w.heap.size) (fun a => Below w2.heap.size w2 a) (fun a' => ∃ r', Wr a' base g r' (st.map (· ++ nums [a, b, c])) ∧ Turn w2 a' g r r') (fun V => [(some 4, V 0), (some 5, V 1), (some 6, V 2), (some 7, V 3), (some 8, V 4), (some 9, V 5), (some 10, V 6), (some 11, V 7), (some 12, V 8), (some 13, V 9), (some 14, V 10)]) (by kernel_rfl) (by kernel_rfl) (by kernel_rfl) (fun V => rfl) ?_ ?_ ?_
  · exact (Below.refl _ _).drew
  · intro i o ho
    have hi : i < 11 := (Array.getElem?_eq_some_iff.1 ho).1
    rcases i with _ | _ | _ | _ | _ | _ | _ | _ | _ | _ | _ | i
    · obtain rfl := Option.some.inj ho
      intro ρ wi hE hI hs hd
      try dsimp only at hI
      have e0 : ρ (.tmp 0) = .pointer (some ⟨g, 0, none⟩) := hs 0 (by kernel_rfl)
      exact Reg.Gives.value (v := .pointer (some ⟨g, 0, none⟩)) (w' := wi) (by go_simp) (Reg.OwedH.same hI rfl)
    · obtain rfl := Option.some.inj ho
      intro ρ wi hE hI hs hd
      try dsimp only at hI
      obtain ⟨u4, g4, e4⟩ := hd 0 4 (by kernel_rfl) (by kernel_rfl) (by show _ < 15; decide)
      obtain rfl : u4 = .pointer (some ⟨g, 0, none⟩) := g4
      exact Reg.Gives.value (v := .pointer (some ⟨g, 0, none⟩)) (w' := wi) (by go_simp) (Reg.OwedH.same hI rfl)
    · obtain rfl := Option.some.inj ho
      intro ρ wi hE hI hs hd
      try dsimp only at hI
      obtain ⟨u5, g5, e5⟩ := hd 1 5 (by kernel_rfl) (by kernel_rfl) (by show _ < 15; decide)
      obtain rfl : u5 = .pointer (some ⟨g, 0, none⟩) := g5
      exact Reg.Gives.value (v := .pointer (some ⟨g, 0, none⟩)) (w' := wi) (by go_simp) (Reg.OwedH.same hI rfl)
    · obtain rfl := Option.some.inj ho
      intro ρ wi hE hI hs hd
      try dsimp only at hI
      have e3 : ρ (.tmp 3) = .pointer (some ⟨w.heap.size, 0, none⟩) := hs 3 (by kernel_rfl)
      exact Reg.Gives.value (v := .pointer (some ⟨w.heap.size, 0, none⟩)) (w' := wi) (by go_simp) (Reg.OwedH.same hI rfl)
    · obtain rfl := Option.some.inj ho
      intro ρ wi hE hI hs hd
      try dsimp only at hI
      obtain ⟨u7, g7, e7⟩ := hd 3 7 (by kernel_rfl) (by kernel_rfl) (by show _ < 15; decide)
      obtain rfl : u7 = .pointer (some ⟨w.heap.size, 0, none⟩) := g7
      have hx := HA.out wi hI 0 _ rfl
      exact Reg.Gives.value (v := .int .i64 a) (w' := wi) (by go_simp) (Reg.OwedH.same hI rfl)
    · obtain rfl := Option.some.inj ho
      intro ρ wi hE hI hs hd
      try dsimp only at hI
      have e3 : ρ (.tmp 3) = .pointer (some ⟨w.heap.size, 0, none⟩) := hs 3 (by kernel_rfl)
      exact Reg.Gives.value (v := .pointer (some ⟨w.heap.size, 1, none⟩)) (w' := wi) (by go_simp) (Reg.OwedH.same hI rfl)
    · obtain rfl := Option.some.inj ho
      intro ρ wi hE hI hs hd
      try dsimp only at hI
      obtain ⟨u9, g9, e9⟩ := hd 5 9 (by kernel_rfl) (by kernel_rfl) (by show _ < 15; decide)
      obtain rfl : u9 = .pointer (some ⟨w.heap.size, 1, none⟩) := g9
      have hx := HA.out wi hI 1 _ rfl
      exact Reg.Gives.value (v := .int .i64 b) (w' := wi) (by go_simp) (Reg.OwedH.same hI rfl)
    · obtain rfl := Option.some.inj ho
      intro ρ wi hE hI hs hd
      try dsimp only at hI
      have e3 : ρ (.tmp 3) = .pointer (some ⟨w.heap.size, 0, none⟩) := hs 3 (by kernel_rfl)
      exact Reg.Gives.value (v := .pointer (some ⟨w.heap.size, 2, none⟩)) (w' := wi) (by go_simp) (Reg.OwedH.same hI rfl)
    · obtain rfl := Option.some.inj ho
      intro ρ wi hE hI hs hd
      try dsimp only at hI
      obtain ⟨u11, g11, e11⟩ := hd 7 11 (by kernel_rfl) (by kernel_rfl) (by show _ < 15; decide)
      obtain rfl : u11 = .pointer (some ⟨w.heap.size, 2, none⟩) := g11
      have hx := HA.out wi hI 2 _ rfl
      exact Reg.Gives.value (v := .int .i64 c) (w' := wi) (by go_simp) (Reg.OwedH.same hI rfl)
    · obtain rfl := Option.some.inj ho
      intro ρ wi hE hI hs hd
      try dsimp only at hI
      obtain ⟨u8, g8, e8⟩ := hd 4 8 (by kernel_rfl) (by kernel_rfl) (by show _ < 15; decide)
      obtain rfl : u8 = .int .i64 a := g8
      obtain ⟨u10, g10, e10⟩ := hd 6 10 (by kernel_rfl) (by kernel_rfl) (by show _ < 15; decide)
      obtain rfl : u10 = .int .i64 b := g10
      obtain ⟨u12, g12, e12⟩ := hd 8 12 (by kernel_rfl) (by kernel_rfl) (by show _ < 15; decide)
      obtain rfl : u12 = .int .i64 c := g12
      have hal := below_alloc wi (.cells #[.int .i64 a, .int .i64 b, .int .i64 c] 3)
      exact Reg.Gives.value (v := .slice (some ⟨wi.heap.size, 0, none⟩) 3 3) (w' := wi.alloc (.cells #[.int .i64 a, .int .i64 b, .int .i64 c] 3)) (by go_simp) ⟨⟨_, rfl, ⟨cells_new wi _ _ _ rfl, hI.size⟩⟩, hI.trans (hal.mono hI.size), fun j u _ _ h => wTid_later hal h⟩
    · obtain rfl := Option.some.inj ho
      intro ρ wi hE hI hs hd
      try dsimp only at hI
      obtain ⟨u6, g6, e6⟩ := hd 2 6 (by kernel_rfl) (by kernel_rfl) (by show _ < 15; decide)
      obtain rfl : u6 = .pointer (some ⟨g, 0, none⟩) := g6
      obtain ⟨u13, g13, e13⟩ := hd 9 13 (by kernel_rfl) (by kernel_rfl) (by show _ < 15; decide)
      have hf := hE.func
      obtain ⟨k, rfl, hck, hk0⟩ := g13
      refine Reg.Gives.call (f := 46) (args := #[.pointer (some ⟨g, 0, none⟩), .slice (some ⟨k, 0, none⟩) 3 3]) (w' := wi) (by go_simp) ?_
      have hlt := HLT.out
      refine (nums_any wi base g r st [a, b, c] k 3 (HW.out.later hI) (by simp; omega) (by simp) (fun j hj => by have h := cells_nums hck j hj; rw [Nat.zero_add] at h; exact h) (by omega) (fun e => by have := hlt.2 k e; omega)).mono ?_
      rintro e w'' ⟨rfl, r', hw', ht'⟩
      exact ⟨_, rfl, ⟨rfl, ⟨r', hw', Turn.before hI ht'⟩, fun j u _ hal h => wTid_keep (fun e => by subst e; rw [show Reg.alive _ _ 10 9 = false by kernel_rfl] at hal; cases hal) h⟩⟩
    · omega
  · intro V w1 hV hI
    simp only [Reg.putsO, List.foldl_cons, List.foldl_nil, Act.put, List.setIfInBounds_toArray, List.set_cons_succ, List.set_cons_zero]
    replace hI : (fun a' => ∃ r', Wr a' base g r' (st.map (· ++ nums [a, b, c])) ∧ Turn w2 a' g r r') w1 := hI
    clear hV
    obtain ⟨r', hw', ht'⟩ := hI
    rw [← HTB.out] at hw'
    have HW' := Lib.hid hw'
    have HT' := Lib.hid (Turn.before HB2.out ht')
    clear hw' ht'
    go_wp2_with fail
    go_returns
    exact ⟨rfl, r', HW'.out, HT'.out⟩
end Go.Proofs.Ytfnkjdkckpdfhaa.Item
