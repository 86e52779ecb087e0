/-
  Layer 6: where the first item of a cell stands: the code's Find and the document's.
  Conditions: none.
-/
import Derived.Test.YtalhbblmnahcdaaGreatPa10
namespace Go.Proofs.YtalhbblmnahcdaaGreat.Item
set_option maxRecDepth 100000
open Go.RowKit Go.Proofs.YtalhbblmnahcdaaGreat.Mem Go.Proofs.YtalhbblmnahcdaaGreat.Wire
/-- Where the first item of a cell stands; -1: nowhere. -/
def findI (l : List It) (c : Int) : Int := match l.findIdx? (fun x => x.cell == c) with | some i => (i : Int) | none => -1
theorem findI_at {l : List It} {c : Int} {k : Nat} (hk : k < l.length) (h0 : ∀ j (hj : j < k), (l[j]'(by omega)).cell ≠ c) (h1 : l[k].cell = c) : findI l c = (k : Int) := by
 have e : l.findIdx? (fun x => x.cell == c) = some k := by
  rw [List.findIdx?_eq_some_iff_getElem]
  exact ⟨hk, by simpa using h1, fun j hj => by simpa using h0 j hj⟩
 unfold findI
 rw [e]
theorem findI_none {l : List It} {c : Int} (h : ∀ j (hj : j < l.length), l[j].cell ≠ c) : findI l c = -1 := by
 have e : l.findIdx? (fun x => x.cell == c) = none := by
  rw [List.findIdx?_eq_none_iff]
  intro x hx
  obtain ⟨j, hj, rfl⟩ := List.getElem_of_mem hx
  simpa using h j hj
 unfold findI
 rw [e]
theorem findEq_any (x : It) (p : Nat) (c : Int) (w : World) (h : w.cell? ⟨p, 0, none⟩ = some (.int .i64 c)) :
  Calls Tryz.prog 83 #[x.val, .pointer (some ⟨p, 0, none⟩)] w fun e w' => e = .returned (.bool (x.cell == c)) ∧ Below w.heap.size w w' := by
 obtain ⟨x0, x1, x2, x3, x4⟩ := x
 have hb1 := below_alloc w (.cells #[.int .i64 x0, .int .i64 x1, .int .i64 x2, .bool x3, .int .i64 x4] 72)
 have h2 := (hb1.cell (block_of_cell h)).trans h
 have HB := Lib.hid hb1
 clear hb1
 unfold It.val
 go_enter Tryz.func83, Tryz.ntmps83
 go_wp2_with fail
 go_returns
 exact ⟨rfl, HB.out⟩
set_option maxHeartbeats 1000000 in
theorem index_any (A : Option Addr) (l : List It) (cap p : Nat) (c : Int) (w : World) (h : Items w A l) (hp : w.cell? ⟨p, 0, none⟩ = some (.int .i64 c)) (hl : l.length ≤ 1000000) :
  Calls Tryz.prog 82 #[.slice A l.length cap, .func (.func 83) #[] #[.pointer (some ⟨p, 0, none⟩)]] w fun e w' => e = .returned (.int .i64 (findI l c)) ∧ Below w.heap.size w w' := by
 have HH := Lib.hid h
 have HP := Lib.hid hp
 obtain ⟨F, hF⟩ : ∃ F, findI l c = F := ⟨_, rfl⟩
 have HF := Lib.hid hF
 rw [hF]
 obtain ⟨n, hn⟩ : ∃ n, l.length = n := ⟨_, rfl⟩
 have HN := Lib.hid hn
 rw [hn] at hl ⊢
 clear h hF hn hp
 go_enter Tryz.func82, Tryz.ntmps82
 go_wp2_with fail
 go_loopw [5, 8] (fun _ i wr => ∃ k : Nat, k ≤ n ∧ i = .int .i64 (k : Int) ∧ Hid (∀ j (hj : j < l.length), j < k → l[j].cell ≠ c) ∧ Hid (Below w.heap.size w wr)) (fun _ i _ => n - (intOf i).toNat)
 case atStart => exact ⟨0, Nat.zero_le _, rfl, Lib.hid (fun j _ hj => absurd hj (by omega)), Lib.hid (Below.refl _ _)⟩
 case round =>
  obtain ⟨k, hk, rfl, hd, HB⟩ := hrel
  by_cases hlt : k < n
  ·have hlt' : k < l.length := by have := HN.out; omega
   obtain ⟨b, off, hA, hit0⟩ := HH.out k hlt'
   subst hA
   have hit := hit0.later HB.out
   have c0 := hit.cell
   have c1 := hit.version
   have c2 := hit.value
   have c3 := hit.write
   have c4 := hit.new
   have HD2 : Hid (l[k].cell ≠ c → ∀ j (hj : j < l.length), j < k + 1 → l[j].cell ≠ c) := Lib.hid (fun h0 j hj hjk => by
    by_cases e : j = k
    ·subst e; exact h0
    ·exact hd.out j hj (by omega))
   have HE : Hid (l[k].cell = c → F = (k : Int)) := Lib.hid (fun h1 => by rw [← HF.out]; exact findI_at hlt' (fun j hj => hd.out j (by omega) hj) h1)
   obtain ⟨x, hx⟩ : ∃ x, l[k] = x := ⟨_, rfl⟩
   rw [hx] at c0 c1 c2 c3 c4 HD2 HE
   have HC := Lib.hid (findEq_any x p c wr ((HB.out.cell (block_of_cell HP.out)).trans HP.out))
   unfold It.val at HC
   clear hit hit0 hx hlt'
   go_wp2_with fail
   refine HC.out.mono ?_
   rintro e w2 ⟨rfl, hb2⟩
   have HB2 := Lib.hid (HB.out.trans (hb2.mono HB.out.size))
   clear hb2 c0 c1 c2 c3 c4
   by_cases hxc : x.cell = c
   ·have HE2 := Lib.hid (HE.out hxc)
    have e1 : (x.cell == c) = true := by simpa using hxc
    rw [e1]
    clear hxc e1
    go_wp2_with fail
    go_returns
    exact ⟨ret_int HE2.out.symm, HB2.out⟩
   ·have HDD := Lib.hid (HD2.out hxc)
    have e1 : (x.cell == c) = false := by simpa using hxc
    rw [e1]
    clear hxc e1
    go_wp2_with fail
    go_roundw
    case rel => exact ⟨k + 1, by omega, by go_num, HDD, HB2⟩
    case measure => simp [intOf]; omega
  ·have HE : Hid (F = -1) := Lib.hid (by rw [← HF.out]; exact findI_none fun j hj => hd.out j hj (by have := HN.out; omega))
   clear hd
   go_wp2_with fail
   go_returns
   exact ⟨ret_int HE.out.symm, HB.out⟩
theorem find_any (A : Option Addr) (l : List It) (cap : Nat) (c : Int) (w : World) (h : Items w A l) (hl : l.length ≤ 1000000) :
  Calls Tryz.prog 45 #[.slice A l.length cap, .int .i64 c] w fun e w' => e = .returned (.int .i64 (findI l c)) ∧ Below w.heap.size w w' := by
 have hb1 := below_alloc w (.cells #[.int .i64 c] 3)
 have HB := Lib.hid hb1
 have HC := Lib.hid (index_any A l cap w.heap.size c (w.alloc (.cells #[.int .i64 c] 3)) (h.later hb1) ((cells_new w 3 [.int .i64 c] _ rfl).cell (j := 0) rfl) hl)
 obtain ⟨n, hn⟩ : ∃ n, l.length = n := ⟨_, rfl⟩
 rw [hn] at HC ⊢
 clear hb1 hn h hl
 go_enter Tryz.func45, Tryz.ntmps45
 go_wp2_with fail
 refine HC.out.mono ?_
 rintro e w2 ⟨rfl, hb2⟩
 have HB2 := Lib.hid (HB.out.trans (hb2.mono HB.out.size))
 clear hb2
 go_wp2_with fail
 go_returns
 exact ⟨rfl, HB2.out⟩
end Go.Proofs.YtalhbblmnahcdaaGreat.Item
