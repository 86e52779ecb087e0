/-
  Layer 6: where the first item of a cell stands: the code's Find and the document's.
  Conditions: none.
-/
import Derived.Test.YtjeogeablbkhgaaP14
namespace Go.Proofs.Ytjeogeablbkhgaa.Item
set_option maxRecDepth 100000
open Go.RowKit Go.Proofs.Ytjeogeablbkhgaa.Mem Go.Proofs.Ytjeogeablbkhgaa.Wire
/-- Where the first item of a cell stands; -1: nowhere. -/
def findI (l : List It) (c : Int) : Int := match l.findIdx? (fun x => x.cell == c) with | some i => (i : Int) | none => -1
theorem findI_at {l : List It} {c : Int} {k : Nat} (hk : k < l.length) (h0 : ∀ j (hj : j < k), (l[j]'(by omega)).cell ≠ c) (h1 : l[k].cell = c) : findI l c = (k : Int) := by
 have e : l.findIdx? (fun x => x.cell == c) = some k := by
  rw [List.findIdx?_eq_some_iff_getElem]
  exact ⟨hk, by simpa using h1, fun j hj => by simpa using h0 j hj⟩
 unfold findI
 rw [e]
theorem findI_none {l : List It} {c : Int} (h : ∀ j (hj : j < l.length), l[j].cell ≠ c) : findI l c = -1 := by
 have e : l.findIdx? (fun x => x.cell == c) = none := by
  rw [List.findIdx?_eq_none_iff]
  intro x hx
  obtain ⟨j, hj, rfl⟩ := List.getElem_of_mem hx
  simpa using h j hj
 unfold findI
 rw [e]
set_option maxHeartbeats 1000000 in
theorem refFind_any (A : Option Addr) (l : List It) (cap : Nat) (c : Int) (w : World) (h : Items w A l) (hl : l.length ≤ 1000000) :
  Calls Try.prog 32 #[.slice A l.length cap, .int .i64 c] w fun e w' => e = .returned (.int .i64 (findI l c)) ∧ w = w' := by
 have HH := Lib.hid h
 obtain ⟨F, hF⟩ : ∃ F, findI l c = F := ⟨_, rfl⟩
 have HF := Lib.hid hF
 rw [hF]
 obtain ⟨n, hn⟩ : ∃ n, l.length = n := ⟨_, rfl⟩
 have HN := Lib.hid hn
 rw [hn] at hl ⊢
 clear h hF hn
 go_enter Try.func32, Try.ntmps32
 go_wp2_with fail
 go_loopw [5] (fun i wr => ∃ k : Nat, k ≤ n ∧ i = .int .i64 (k : Int) ∧ Hid (∀ j (hj : j < l.length), j < k → l[j].cell ≠ c) ∧ w = wr) (fun i _ => n - (intOf i).toNat)
 case atStart => exact ⟨0, Nat.zero_le _, rfl, Lib.hid (fun j _ hj => absurd hj (by omega)), rfl⟩
 case round =>
  obtain ⟨k, hk, rfl, hd, rfl⟩ := hrel
  by_cases hlt : k < n
  ·have hlt' : k < l.length := by have := HN.out; omega
   obtain ⟨b, off, hA, hit⟩ := HH.out k hlt'
   subst hA
   have c0 := hit.cell
   have HD2 : Hid (l[k].cell ≠ c → ∀ j (hj : j < l.length), j < k + 1 → l[j].cell ≠ c) := Lib.hid (fun h0 j hj hjk => by
    by_cases e : j = k
    ·subst e; exact h0
    ·exact hd.out j hj (by omega))
   have HE : Hid (l[k].cell = c → F = (k : Int)) := Lib.hid (fun h1 => by rw [← HF.out]; exact findI_at hlt' (fun j hj => hd.out j (by omega) hj) h1)
   obtain ⟨x, hx⟩ : ∃ x, l[k].cell = x := ⟨_, rfl⟩
   rw [hx] at c0 HD2 HE
   clear hit hx hlt'
   by_cases hxc : x = c
   ·have HE2 := Lib.hid (HE.out hxc)
    subst hxc
    go_wp2_with fail
    go_returns
    exact ⟨ret_int HE2.out.symm, rfl⟩
   ·have HDD := Lib.hid (HD2.out hxc)
    have e1 : (x == c) = false := by simpa using hxc
    clear hxc
    go_wp2_with fail
    go_roundw
    case rel => exact ⟨k + 1, by omega, by go_num, HDD, by trivial⟩
    case measure => simp [intOf]; omega
  ·have HE : Hid (F = -1) := Lib.hid (by rw [← HF.out]; exact findI_none fun j hj => hd.out j hj (by have := HN.out; omega))
   clear hd
   go_wp2_with fail
   go_returns
   exact ⟨ret_int HE.out.symm, rfl⟩
end Go.Proofs.Ytjeogeablbkhgaa.Item
