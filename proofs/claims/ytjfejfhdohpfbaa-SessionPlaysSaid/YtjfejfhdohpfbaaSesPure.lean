/-
  Layer 14, SessionPlays: what stays true of a session: its own peer holds nothing; a tick keeps it as it may be. Conditions: none.
-/
import Derived.Test.YtjfejfhdohpfbaaSesTick
import Derived.Test.YtjfejfhdohpfbaaSesAwake
namespace Go.Proofs.Ytjfejfhdohpfbaa.Ses
set_option maxRecDepth 100000
open Go.RowKit Go.Deep Go.Proofs.Ytjfejfhdohpfbaa.Mem Go.Proofs.Ytjfejfhdohpfbaa.Win

/-- Of its own node a session holds nothing. -/
def Lone (S : Sm) : Prop := ∀ (i : Nat) (p : Pm), S.peers[i]? = some p → (i : Int) + 1 = S.node → p.held = []
section
variable {S : Sm} {N x : Int} {p : Pm}
theorem other_iff : other S x = true ↔ x ≠ S.node ∧ 1 ≤ x ∧ x ≤ S.peers.length := by
  unfold other
  exact decide_eq_true_iff
theorem other_put (y : Int) : other (putP S x p) y = other S y := by
  unfold other putP
  simp only [List.length_set]
theorem Lone.put (h : Lone S) (ho : other S x = true) (p : Pm) : Lone (putP S x p) := by
  obtain ⟨h1, h2, h3⟩ := other_iff.1 ho
  intro i q hq e
  have hne : (x - 1).toNat ≠ i := fun e2 => h1 (by
    have e3 : (i : Int) + 1 = S.node := e
    omega)
  have hq2 : (S.peers.set (x - 1).toNat p)[i]? = some q := hq
  rw [List.getElem?_set_ne hne] at hq2
  exact h i q hq2 e
theorem newS_lone (node nodes epoch : Int) : Lone (newS node nodes epoch) := by
  intro i q hq _
  rw [List.eq_of_mem_replicate (List.mem_of_getElem? (show (List.replicate nodes.toNat freshP)[i]? = some q from hq))]
  rfl
theorem sendM_lone (h : Lone S) (x : Int) (ss : List ByteArray) : Lone (sendM S x ss).2.2 := by
  unfold sendM
  split
  · exact h
  · rename_i ho
    split
    · exact h
    · split
      · exact h
      · exact h.put (by simpa using ho) _
theorem tailM_lone (h : Lone S) (ho : other S x = true) (e : Ev) (out : List Ot) : Lone (tailM S x e out).2.2.2 := by
  unfold tailM
  split
  · exact h
  · split
    · show Lone (if e.peer = 0 then S else putP S x (goP (peerOf S x) e.seq))
      split
      · exact h
      · exact h.put ho _
    · split
      · exact h
      · exact h.put ho _
theorem takeM_lone (h : Lone S) (x : Int) (e : Ev) : Lone (takeM S x e).2.2.2 := by
  unfold takeM
  split
  · exact h
  · rename_i ho
    have ho2 : other S x = true := by simpa using ho
    split
    · exact h
    · split
      · exact h
      · split
        · exact tailM_lone (h.put ho2 _) (by rw [other_put]; exact ho2) e _
        · exact tailM_lone h ho2 e _
theorem tickM_lone (h : Lone S) : Lone (tickM S).2 := by
  intro i q hq e
  have hq2 : (S.peers.map fun p => (tickP p).2)[i]? = some q := hq
  rw [List.getElem?_map] at hq2
  obtain ⟨p, hp, rfl⟩ := Option.map_eq_some_iff.1 hq2
  show (p.held.map fun h => (tickH h).2) = []
  rw [h i p hp e]
  rfl
theorem tickH_ok {h : Hd} (k : Hok N h) : Hok N (tickH h).2 := by
  have := k.d0
  have := k.d1
  have := k.l0
  have := k.l1
  unfold tickH
  split
  · exact ⟨k.s0, k.s1, k.d0, k.d1, by show 1 ≤ h.left - 1; omega, by show h.left - 1 ≤ 16; omega, k.p1⟩
  · exact ⟨k.s0, k.s1, by show 1 ≤ min (2 * h.delay) 16; omega, by show min (2 * h.delay) 16 ≤ 16; omega, by show 1 ≤ min (2 * h.delay) 16; omega, by show min (2 * h.delay) 16 ≤ 16; omega, k.p1⟩
theorem tickM_ok (h : Sok N S) : Sok N (tickM S).2 := by
  have hl : (tickM S).2.peers.length = S.peers.length := List.length_map ..
  refine ⟨h.n0, by rw [hl]; exact h.n1, by rw [hl]; exact h.n2, h.e0, h.e1, fun q hq => ?_⟩
  obtain ⟨p, hp, rfl⟩ := List.mem_map.1 (show q ∈ S.peers.map fun p => (tickP p).2 from hq)
  have hk := h.peers p hp
  refine ⟨hk.win, hk.k0, hk.k1, hk.l0, hk.l1, ?_, fun x hx => ?_⟩
  · show (p.held.map fun h => (tickH h).2).length ≤ 32
    rw [List.length_map]
    exact hk.len
  · obtain ⟨y, hy, rfl⟩ := List.mem_map.1 (show x ∈ p.held.map fun h => (tickH h).2 from hx)
    exact tickH_ok (hk.held y hy)
end
end Go.Proofs.Ytjfejfhdohpfbaa.Ses
