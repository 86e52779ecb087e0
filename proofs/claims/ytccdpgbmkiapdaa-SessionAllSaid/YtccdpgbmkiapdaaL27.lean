/-
  Layer 14, SessionPlays: what stays true of a session: its own peer holds nothing; a tick keeps it as it may be.
  Layer 14, SessionPlays: what is held lies near the last number: so a Send of nothing has room, as the document says.
  Conditions: none.
-/
import Derived.Test.YtccdpgbmkiapdaaL25
import Derived.Test.YtccdpgbmkiapdaaL26
namespace Go.Proofs.Ytccdpgbmkiapdaa.Ses
set_option maxRecDepth 100000
open Go.RowKit Go.Deep Go.Proofs.Ytccdpgbmkiapdaa.Mem Go.Proofs.Ytccdpgbmkiapdaa.Win
/-- Of its own node a session holds nothing. -/
def Lone (S : Sm) : Prop := ∀ (i : Nat) (p : Pm), S.peers[i]? = some p → (i : Int) + 1 = S.node → p.held = []
section
variable {S : Sm} {N x : Int} {p : Pm}
theorem other_iff : other S x = true ↔ x ≠ S.node ∧ 1 ≤ x ∧ x ≤ S.peers.length := by
 unfold other
 exact decide_eq_true_iff
theorem other_put (y : Int) : other (putP S x p) y = other S y := by
 unfold other putP
 simp only [List.length_set]
theorem Lone.put (h : Lone S) (ho : other S x = true) (p : Pm) : Lone (putP S x p) := by
 obtain ⟨h1, h2, h3⟩ := other_iff.1 ho
 intro i q hq e
 have hne : (x - 1).toNat ≠ i := fun e2 => h1 (by
  have e3 : (i : Int) + 1 = S.node := e
  omega)
 have hq2 : (S.peers.set (x - 1).toNat p)[i]? = some q := hq
 rw [List.getElem?_set_ne hne] at hq2
 exact h i q hq2 e
theorem newS_lone (node nodes epoch : Int) : Lone (newS node nodes epoch) := by
 intro i q hq _
 rw [List.eq_of_mem_replicate (List.mem_of_getElem? (show (List.replicate nodes.toNat freshP)[i]? = some q from hq))]
 rfl
theorem sendM_lone (h : Lone S) (x : Int) (ss : List ByteArray) : Lone (sendM S x ss).2.2 := by
 unfold sendM
 split
 ·exact h
 ·rename_i ho
  split
  ·exact h
  ·split
   ·exact h
   ·exact h.put (by simpa using ho) _
theorem tailM_lone (h : Lone S) (ho : other S x = true) (e : Ev) (out : List Ot) : Lone (tailM S x e out).2.2.2 := by
 unfold tailM
 split
 ·exact h
 ·split
  ·show Lone (if e.peer = 0 then S else putP S x (goP (peerOf S x) e.seq))
   split
   ·exact h
   ·exact h.put ho _
  ·split
   ·exact h
   ·exact h.put ho _
theorem takeM_lone (h : Lone S) (x : Int) (e : Ev) : Lone (takeM S x e).2.2.2 := by
 unfold takeM
 split
 ·exact h
 ·rename_i ho
  have ho2 : other S x = true := by simpa using ho
  split
  ·exact h
  ·split
   ·exact h
   ·split
    ·exact tailM_lone (h.put ho2 _) (by rw [other_put]; exact ho2) e _
    ·exact tailM_lone h ho2 e _
theorem tickM_lone (h : Lone S) : Lone (tickM S).2 := by
 intro i q hq e
 have hq2 : (S.peers.map fun p => (tickP p).2)[i]? = some q := hq
 rw [List.getElem?_map] at hq2
 obtain ⟨p, hp, rfl⟩ := Option.map_eq_some_iff.1 hq2
 show (p.held.map fun h => (tickH h).2) = []
 rw [h i p hp e]
 rfl
theorem tickH_ok {h : Hd} (k : Hok N h) : Hok N (tickH h).2 := by
 have := k.d0
 have := k.d1
 have := k.l0
 have := k.l1
 unfold tickH
 split
 ·exact ⟨k.s0, k.s1, k.d0, k.d1, by show 1 ≤ h.left - 1; omega, by show h.left - 1 ≤ 16; omega, k.p1⟩
 ·exact ⟨k.s0, k.s1, by show 1 ≤ min (2 * h.delay) 16; omega, by show min (2 * h.delay) 16 ≤ 16; omega, by show 1 ≤ min (2 * h.delay) 16; omega, by show min (2 * h.delay) 16 ≤ 16; omega, k.p1⟩
theorem tickM_ok (h : Sok N S) : Sok N (tickM S).2 := by
 have hl : (tickM S).2.peers.length = S.peers.length := List.length_map ..
 refine ⟨h.n0, by rw [hl]; exact h.n1, by rw [hl]; exact h.n2, h.e0, h.e1, fun q hq => ?_⟩
 obtain ⟨p, hp, rfl⟩ := List.mem_map.1 (show q ∈ S.peers.map fun p => (tickP p).2 from hq)
 have hk := h.peers p hp
 refine ⟨hk.win, hk.k0, hk.k1, hk.l0, hk.l1, ?_, fun x hx => ?_⟩
 ·show (p.held.map fun h => (tickH h).2).length ≤ 32
  rw [List.length_map]
  exact hk.len
 ·obtain ⟨y, hy, rfl⟩ := List.mem_map.1 (show x ∈ p.held.map fun h => (tickH h).2 from hx)
  exact tickH_ok (hk.held y hy)
end
end Go.Proofs.Ytccdpgbmkiapdaa.Ses
namespace Go.Proofs.Ytccdpgbmkiapdaa.Ses
set_option maxRecDepth 100000
open Go.RowKit Go.Deep Go.Proofs.Ytccdpgbmkiapdaa.Mem Go.Proofs.Ytccdpgbmkiapdaa.Win
structure Near (p : Pm) : Prop where
 sorted : p.held.Pairwise fun a b => a.seq < b.seq
 near : ∀ h ∈ p.held, p.last < h.seq + 64
 le : ∀ h ∈ p.held, h.seq ≤ p.last
theorem newHd_sorted (l : List ByteArray) : ∀ last : Int, (newHd last l).Pairwise fun a b => a.seq < b.seq := by
 induction l with
 | nil => intro _; exact List.Pairwise.nil
 | cons s r ih =>
  intro last
  refine List.Pairwise.cons (fun b hb => ?_) (ih (last + 1))
  have := (newHd_mem hb).1
  show last + 1 < b.seq
  omega
section
variable {S : Sm} {x : Int} {p : Pm}
theorem freshP_near : Near freshP := ⟨List.Pairwise.nil, fun h hh => (by cases hh), fun h hh => (by cases hh)⟩
theorem Near.hold (h : Near p) {ss : List ByteArray} (hr : roomP p ss.length = true) : Near (holdP p ss) := by
 obtain ⟨h1, h2⟩ := of_decide_eq_true hr
 refine ⟨List.pairwise_append.2 ⟨h.sorted, newHd_sorted ss p.last, fun a ha b hb => ?_⟩, fun a ha => ?_, fun a ha => ?_⟩
 ·have := h.le a ha
  have := (newHd_mem hb).1
  omega
 ·show p.last + ss.length < a.seq + 64
  rcases List.mem_append.1 (show a ∈ p.held ++ newHd p.last ss from ha) with ha | ha
  ·cases hh : p.held with
   | nil => rw [hh] at ha; cases ha
   | cons b r =>
    have h3 := h2 b (by rw [hh]; rfl)
    have h4 := h.sorted
    rw [hh] at ha h4
    rcases List.mem_cons.1 ha with rfl | ha
    ·exact h3
    ·have := (List.pairwise_cons.1 h4).1 a ha
     omega
  ·have := (newHd_mem ha).1
   omega
 ·show a.seq ≤ p.last + ss.length
  rcases List.mem_append.1 (show a ∈ p.held ++ newHd p.last ss from ha) with ha | ha
  ·have := h.le a ha
   omega
  ·exact (newHd_mem ha).2.1
theorem Near.map (h : Near p) {f : Hd → Hd} (hf : ∀ a, (f a).seq = a.seq) (L : List Int) (kn : Int) : Near ⟨L, kn, p.last, p.held.map f⟩ := by
 refine ⟨List.pairwise_map.2 (h.sorted.imp fun {a b} e => by rw [hf, hf]; exact e), fun a ha => ?_, fun a ha => ?_⟩
 ·obtain ⟨b, hb, rfl⟩ := List.mem_map.1 (show a ∈ p.held.map f from ha)
  rw [hf]
  exact h.near b hb
 ·obtain ⟨b, hb, rfl⟩ := List.mem_map.1 (show a ∈ p.held.map f from ha)
  rw [hf]
  exact h.le b hb
theorem Near.meet (h : Near p) (e : Int) : Near (meetP p e).2 := by
 unfold meetP
 split
 ·exact ⟨h.sorted, h.near, h.le⟩
 ·exact h.map (f := beginH) (fun _ => rfl) [] e
theorem Near.go (h : Near p) (q : Int) : Near (goP p q) :=
 ⟨h.sorted.sublist List.filter_sublist, fun a ha => h.near a (List.mem_filter.1 ha).1, fun a ha => h.le a (List.mem_filter.1 ha).1⟩
theorem tickH_seq (a : Hd) : (tickH a).2.seq = a.seq := by unfold tickH; split <;> rfl
theorem Near.tick (h : Near p) : Near (tickP p).2 := h.map tickH_seq _ _
theorem Near.seen (h : Near p) (L : List Int) : Near ⟨L, p.known, p.last, p.held⟩ := ⟨h.sorted, h.near, h.le⟩
def NearS (S : Sm) : Prop := ∀ p ∈ S.peers, Near p
theorem NearS.put (h : NearS S) (x : Int) (hp : Near p) : NearS (putP S x p) := fun q hq => by
 rcases List.mem_or_eq_of_mem_set (show q ∈ S.peers.set _ p from hq) with hq | hq
 ·exact h q hq
 ·rw [hq]
  exact hp
theorem NearS.peer (h : NearS S) (x : Int) : Near (peerOf S x) := by
 unfold peerOf
 cases hx : S.peers[(x - 1).toNat]? with
 | none => exact freshP_near
 | some p => exact h p (List.mem_of_getElem? hx)
theorem newS_near (node nodes epoch : Int) : NearS (newS node nodes epoch) := fun q hq => by
 rw [List.eq_of_mem_replicate (show q ∈ List.replicate nodes.toNat freshP from hq)]
 exact freshP_near
theorem sendM_near (h : NearS S) (x : Int) (ss : List ByteArray) : NearS (sendM S x ss).2.2 := by
 unfold sendM
 split
 ·exact h
 ·split
  ·exact h
  ·split
   ·exact h
   ·rename_i hr
    exact h.put x ((h.peer x).hold (by simpa using hr))
theorem tailM_near (h : NearS S) (x : Int) (e : Ev) (out : List Ot) : NearS (tailM S x e out).2.2.2 := by
 unfold tailM
 split
 ·exact h
 ·split
  ·show NearS (if e.peer = 0 then S else putP S x (goP (peerOf S x) e.seq))
   split
   ·exact h
   ·exact h.put x ((h.peer x).go _)
  ·split
   ·exact h
   ·exact h.put x ((h.peer x).seen _)
theorem takeM_near (h : NearS S) (x : Int) (e : Ev) : NearS (takeM S x e).2.2.2 := by
 unfold takeM
 split
 ·exact h
 ·split
  ·exact h
  ·split
   ·exact h
   ·split
    ·exact tailM_near (h.put x ((h.peer x).meet _)) x e _
    ·exact tailM_near h x e _
theorem tickM_near (h : NearS S) : NearS (tickM S).2 := fun q hq => by
 obtain ⟨p, hp, rfl⟩ := List.mem_map.1 (show q ∈ S.peers.map fun p => (tickP p).2 from hq)
 exact (h p hp).tick
end
end Go.Proofs.Ytccdpgbmkiapdaa.Ses
