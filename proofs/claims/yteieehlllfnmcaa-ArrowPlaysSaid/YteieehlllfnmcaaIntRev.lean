/-
  The library's Reverse at a row of ints of the call's own. Conditions: none.
-/
import Derived.Test.YteieehlllfnmcaaIntCat
import Derived.BigRegion
namespace Go.Proofs.Yteieehlllfnmcaa.Mem
set_option maxRecDepth 100000
open Go.RowKit Go.Deep

/-- k pairs of a list are swapped, from its ends on. -/
def Rvd (L L' : List Nat) (k : Nat) : Prop := L'.length = L.length ∧ ∀ x, x < L.length → L'[x]? = if x < k ∨ L.length - k ≤ x then L[L.length - 1 - x]? else L[x]?
theorem Rvd.done {L L' : List Nat} {k : Nat} (h : Rvd L L' k) (hk : L.length ≤ k + k + 1) : L' = L.reverse := by
  apply List.ext_getElem?
  intro x
  by_cases hx : x < L.length
  · rw [h.2 x hx, List.getElem?_reverse hx]
    split
    · rfl
    · rw [show L.length - 1 - x = x by omega]
  · rw [List.getElem?_eq_none (by have := h.1; omega), List.getElem?_eq_none (by simp; omega)]
theorem Rvd.swap {L L' : List Nat} {k : Nat} (h : Rvd L L' k) (hk : k + k + 1 < L.length) {a b : Nat} (ha : L'[k]? = some a) (hb : L'[L.length - 1 - k]? = some b) : Rvd L ((L'.set k b).set (L.length - 1 - k) a) (k + 1) := by
  refine ⟨by simp [h.1], fun x hx => ?_⟩
  have hl := h.1
  have h1 := h.2 k (by omega)
  have h2 := h.2 (L.length - 1 - k) (by omega)
  rw [if_neg (by omega)] at h1 h2
  rw [ha] at h1
  rw [hb] at h2
  rw [List.getElem?_set, List.getElem?_set]
  by_cases e1 : L.length - 1 - k = x
  · subst e1
    rw [if_pos rfl, if_pos (by simp; omega), if_pos (by omega), show L.length - 1 - (L.length - 1 - k) = k by omega, h1]
  · rw [if_neg e1]
    by_cases e2 : k = x
    · subst e2
      rw [if_pos rfl, if_pos (by omega), if_pos (by omega), h2]
    · rw [if_neg e2, h.2 x hx]
      by_cases e3 : x < k ∨ L.length - k ≤ x
      · rw [if_pos e3, if_pos (by omega)]
      · rw [if_neg e3, if_neg (by omega)]
set_option maxHeartbeats 1000000 in
theorem reverse_int {B : Nat} {w : World} {A : Option Addr} {n c : Nat} {L : List Nat} (h : NR B w (.slice A n c) L) (hl : L.length ≤ 1000) (hB : B ≤ w.heap.size) :
    Calls Try.prog 35 #[.slice A n c] w fun e w' => (∃ u, e = .returned u) ∧ NR B w' (.slice A n c) L.reverse ∧ Only (fun i => some i = blk A) w w' := by
  have hn := (OwnG.irow h).1
  subst hn
  obtain ⟨n, hn⟩ : ∃ n, L.length = n := ⟨_, rfl⟩
  have HN := Lib.hid hn
  have HR0 := Lib.hid h
  rw [hn] at hl HR0 ⊢
  have HBB := Lib.hid hB
  clear h hn hB
  go_enter Try.func35, Try.ntmps35
  go_wp2_with fail
  go_loopw [2, 3] (fun i j wr => ∃ (k : Nat) (L' : List Nat), k + k ≤ n + 1 ∧ i = .int .i64 (k : Int) ∧ j = .int .i64 ((n : Int) - 1 - (k : Int)) ∧ Hid (Rvd L L' k) ∧ Hid (NR B wr (.slice A n c) L') ∧ Hid (Only (fun i => some i = blk A) w wr)) (fun i _ _ => n - (intOf i).toNat)
  case atStart => exact ⟨0, L, by omega, rfl, by go_num, Lib.hid ⟨rfl, fun x hx => by rw [if_neg (by omega)]⟩, HR0, Lib.hid (Only.refl _ _)⟩
  case round =>
    obtain ⟨k, L', hk, rfl, rfl, HV, HR, HB⟩ := hrel
    by_cases hlt : k + k + 1 < n
    · have hL' : L'.length = n := HV.out.1.trans HN.out
      obtain ⟨g, rfl, hg, c1, f1⟩ := HR.out.icell (k := k) (by omega)
      obtain ⟨g2, e2, _, c2, f2⟩ := HR.out.icell (k := n - 1 - k) (by omega)
      simp only [Option.some.injEq, Addr.mk.injEq] at e2
      obtain ⟨rfl, _⟩ := e2
      obtain ⟨a, ha⟩ : ∃ a, L'[k]'(by omega) = a := ⟨_, rfl⟩
      obtain ⟨b, hb⟩ : ∃ b, L'[n - 1 - k]'(by omega) = b := ⟨_, rfl⟩
      rw [ha] at c1
      rw [hb] at c2
      obtain ⟨s1, o1⟩ := HR.out.iset (k := k) (by omega) b
      obtain ⟨s2, o2⟩ := s1.iset (k := n - 1 - k) (by rw [List.length_set]; omega) a
      have HV2 := HV.out.swap (by rw [HN.out]; exact hlt) (a := a) (b := b) (by rw [← ha]; exact List.getElem?_eq_getElem _) (by rw [← hb, HN.out]; exact List.getElem?_eq_getElem _)
      rw [HN.out] at HV2
      have HV3 := Lib.hid HV2
      have HS2 := Lib.hid s2
      obtain ⟨q, hq⟩ : ∃ q, n - 1 - k = q := ⟨_, rfl⟩
      have hqi : (n : Int) - 1 - (k : Int) = (q : Int) := by omega
      rw [hq] at c2 f2 HS2 HV3 o2
      rw [hqi]
      have hkq : k < q := by omega
      have hqn : q < n := by omega
      have HB2 := Lib.hid (HB.out.trans (o1.trans o2 fun _ _ e => e) fun i _ e => by rw [show i = g from e]; rfl)
      have HQ := Lib.hid hq
      clear HV2 s1 s2 o1 o2 ha hb hL' hq hqi HV HR HB
      go_upto_region 3 with (fail)
      go_region
      have HS3 := Lib.hid (HS2.out.later (Below.refl _ _).drew)
      have HB3 := Lib.hid (HB2.out.trans (S' := fun _ => False) (Only.of_below (Below.refl _ _).drew) fun _ _ e => e.elim)
      clear HS2 HB2
      go_wp2_with fail
      go_roundw
      case rel => exact ⟨k + 1, _, by omega, by go_num, by have := HQ.out; go_num, HV3, HS3, HB3⟩
      case measure => simp [intOf]; omega
    · have hlt2 : ¬ (k : Int) < (n : Int) - 1 - (k : Int) := by omega
      go_wp2_with fail
      go_returns
      exact ⟨⟨_, rfl⟩, by rw [← HV.out.done (by rw [HN.out]; omega)]; exact HR.out, HB.out⟩
end Go.Proofs.Yteieehlllfnmcaa.Mem
