/-
  Layer 14: where a session lies; what a call does to it; its smallest functions.
  Conditions: none.
-/
import Derived.Test.YtccdpgbmkiapdaaL11
namespace Go.Proofs.Ytccdpgbmkiapdaa.Ses
set_option maxRecDepth 100000
open Go.RowKit Go.Deep Go.Proofs.Ytccdpgbmkiapdaa.Mem Go.Proofs.Ytccdpgbmkiapdaa.Win
/-- A session is there: its struct in block sb, its peers in block pb; F are the blocks that it has. -/
structure SAtX (B : Nat) (F : Nat → Prop) (w : World) (sb : Nat) (S : Sm) (pb : Nat) (As : Nat → Option Addr) (cs : Nat → Nat) : Prop where
 cel : Cells w sb 111 [.int .i64 S.node, .int .i64 S.epoch, .slice (some ⟨pb, 0, none⟩) S.peers.length S.peers.length]
 peer : ∀ (i : Nat) (h : i < S.peers.length), PAt B w pb (i * 5) S.peers[i] (As i) (cs i)
 apart : ∀ i j k, i < S.peers.length → j < S.peers.length → blk (As i) = some k → blk (As j) = some k → i = j
 fs : F sb
 fp : F pb
 fA : ∀ i k, i < S.peers.length → blk (As i) = some k → F k
 sp : sb ≠ pb
 sA : ∀ i k, i < S.peers.length → blk (As i) = some k → k ≠ sb
 low : ∀ k, F k → B ≤ k
 lt : ∀ k, F k → k < w.heap.size
def SAt (B : Nat) (F : Nat → Prop) (w : World) (sb : Nat) (S : Sm) : Prop := ∃ pb As cs, SAtX B F w sb S pb As cs
section
variable {B sb pb : Nat} {F T : Nat → Prop} {w w1 w' : World} {S S' : Sm} {As : Nat → Option Addr} {cs : Nat → Nat}
theorem SAtX.only (h : SAtX B F w sb S pb As cs) (ho : Only T w w') (hn : ∀ k, F k → ¬ T k) : SAtX B F w' sb S pb As cs :=
 ⟨cells_only h.cel ho (hn _ h.fs), fun i hi => (h.peer i hi).only ho (hn _ h.fp) fun k e => hn k (h.fA i k hi e), h.apart, h.fs, h.fp, h.fA, h.sp, h.sA, h.low, fun k e => Nat.lt_of_lt_of_le (h.lt k e) ho.size⟩
theorem SAtX.later (h : SAtX B F w sb S pb As cs) (hb : Below w.heap.size w w') : SAtX B F w' sb S pb As cs := h.only (Only.of_below (S := fun _ => False) hb) fun _ _ e => e
theorem SAt.only (h : SAt B F w sb S) (ho : Only T w w') (hn : ∀ k, F k → ¬ T k) : SAt B F w' sb S := by
 obtain ⟨pb, As, cs, h⟩ := h
 exact ⟨pb, As, cs, h.only ho hn⟩
theorem SAt.later (h : SAt B F w sb S) (hb : Below w.heap.size w w') : SAt B F w' sb S := h.only (Only.of_below (S := fun _ => False) hb) fun _ _ e => e
/-- What a call does: the session's blocks behind it are those ahead of it, or new ones. -/
structure SStep (B : Nat) (F : Nat → Prop) (w : World) (sb : Nat) (S' : Sm) (F' : Nat → Prop) (w' : World) : Prop where
 at' : SAt B F' w' sb S'
 only : Only F w w'
 new : ∀ k, F' k → F k ∨ w.heap.size ≤ k
theorem SStep.same (h : SAt B F w sb S) (hb : Below w.heap.size w w') : SStep B F w sb S F w' := ⟨h.later hb, Only.of_below hb, fun _ e => Or.inl e⟩
theorem SStep.before {F' : Nat → Prop} (hb : Below w.heap.size w w1) (h : SStep B F w1 sb S' F' w') : SStep B F w sb S' F' w' :=
 ⟨h.at', (Only.of_below hb).trans h.only fun _ _ e => e, fun k e => (h.new k e).imp_right fun h => Nat.le_trans hb.size h⟩
theorem SStep.after {F' : Nat → Prop} (h : SStep B F w sb S' F' w1) (hb : Below w1.heap.size w1 w') : SStep B F w sb S' F' w' :=
 ⟨h.at'.later hb, h.only.trans (S' := fun _ => False) (Only.of_below hb) fun _ _ e => e.elim, h.new⟩
theorem SStep.trans {F' F2 : Nat → Prop} {S2 : Sm} (h : SStep B F w sb S' F' w1) (k : SStep B F' w1 sb S2 F2 w') : SStep B F w sb S2 F2 w' :=
 ⟨k.at', h.only.trans k.only fun i hi e => (h.new i e).resolve_right (by omega), fun i e => by
  rcases k.new i e with e2 | e2
  ·exact h.new i e2
  ·exact Or.inr (Nat.le_trans h.only.size e2)⟩
/-- One of its peers has turned. -/
theorem SAtX.step (h : SAtX B F w sb S pb As cs) {i : Nat} (hi : i < S.peers.length) {p' : Pm} {A' : Option Addr} {ac' : Nat} (hp : PStep B pb (i * 5) (As i) w p' A' ac' w') (hB : B ≤ w.heap.size) :
  SAtX B (fun k => F k ∨ w.heap.size ≤ k ∧ some k = blk A') w' sb { S with peers := S.peers.set i p' } pb (fun j => if j = i then A' else As j) (fun j => if j = i then ac' else cs j) ∧ Only F w w' := by
 have hF : ∀ k, (k = pb ∨ some k = blk (As i)) → F k := fun k e => by
  rcases e with e | e
  ·rw [e]; exact h.fp
  ·exact h.fA i k hi e.symm
 have hsb : ¬ (sb = pb ∨ some sb = blk (As i)) := fun e => by
  rcases e with e | e
  ·exact h.sp e
  ·exact h.sA i sb hi e.symm rfl
 have hlt := h.cel.lt
 have hold : ∀ j k, j < S.peers.length → blk (As j) = some k → k < w.heap.size := fun j k hj e => ((h.peer j hj).row.lt k (by rw [own_blk]; exact e)).2
 refine ⟨⟨?_, fun j hj => ?_, fun j l k hj hl e1 e2 => ?_, Or.inl h.fs, Or.inl h.fp, fun j k hj e => ?_, h.sp, fun j k hj e => ?_, fun k e => ?_, fun k e => ?_⟩, hp.only.mono fun k _ e => hF k e⟩
 ·simp only [List.length_set]
  exact cells_only h.cel hp.only hsb
 ·simp only [List.length_set] at hj
  by_cases e : j = i
  ·subst e
   simp only [if_true, List.getElem_set_self]
   exact hp.at'
  ·simp only [if_neg e, List.getElem_set_ne (fun e2 : i = j => e e2.symm)]
   refine (h.peer j hj).beside hp.only hp.keeps (by omega) fun k e2 e3 => ?_
   rcases e3 with e3 | e3
   ·exact (h.peer j hj).nA k e2 e3
   ·exact e (h.apart j i k hj hi e2 e3.symm)
 ·simp only [List.length_set] at hj hl
  by_cases ej : j = i
  ·by_cases el : l = i
   ·omega
   ·rw [if_pos ej] at e1
    rw [if_neg el] at e2
    rcases hp.new k e1 with e3 | e3
    ·exact absurd (h.apart l i k hl hi e2 e3.symm) el
    ·have := hold l k hl e2
     omega
  ·rw [if_neg ej] at e1
   by_cases el : l = i
   ·rw [if_pos el] at e2
    rcases hp.new k e2 with e3 | e3
    ·exact absurd (h.apart j i k hj hi e1 e3.symm) ej
    ·have := hold j k hj e1
     omega
   ·rw [if_neg el] at e2
    exact h.apart j l k hj hl e1 e2
 ·simp only [List.length_set] at hj
  by_cases ej : j = i
  ·rw [if_pos ej] at e
   rcases hp.new k e with e3 | e3
   ·exact Or.inl (h.fA i k hi e3.symm)
   ·exact Or.inr ⟨e3, e.symm⟩
  ·rw [if_neg ej] at e
   exact Or.inl (h.fA j k hj e)
 ·simp only [List.length_set] at hj
  by_cases ej : j = i
  ·rw [if_pos ej] at e
   rcases hp.new k e with e3 | e3
   ·exact h.sA i k hi e3.symm
   ·omega
  ·rw [if_neg ej] at e
   exact h.sA j k hj e
 ·rcases e with e | e
  ·exact h.low k e
  ·omega
 ·rcases e with e | e
  ·exact Nat.lt_of_lt_of_le (h.lt k e) hp.only.size
  ·exact (hp.at'.row.lt k (by rw [own_blk]; exact e.2.symm)).2
theorem SAtX.turn (h : SAtX B F w sb S pb As cs) {i : Nat} (hi : i < S.peers.length) {p' : Pm} {A' : Option Addr} {ac' : Nat} (hp : PStep B pb (i * 5) (As i) w p' A' ac' w') (hB : B ≤ w.heap.size) :
  SStep B F w sb { S with peers := S.peers.set i p' } (fun k => F k ∨ w.heap.size ≤ k ∧ some k = blk A') w' := by
 obtain ⟨h1, h2⟩ := h.step hi hp hB
 exact ⟨⟨_, _, _, h1⟩, h2, fun k e => e.imp_right fun e => e.1⟩
end
theorem among_any (n a b : Int) (w : World) : Calls Try.prog 37 #[.int .i64 n, .int .i64 a, .int .i64 b] w fun e w' => e = .returned (.bool (decide (a ≤ n ∧ n ≤ b))) ∧ w' = w := by
 by_cases h1 : a ≤ n
 ·by_cases h2 : n ≤ b
  ·rw [decide_eq_true (And.intro h1 h2)]
   go_enter Try.func37, Try.ntmps37
   go_wp2_with fail
   go_returns
   exact ⟨rfl, rfl⟩
  ·rw [decide_eq_false (fun h => h2 h.2)]
   have e2 : decide (n ≤ b) = false := decide_eq_false h2
   go_enter Try.func37, Try.ntmps37
   go_wp2_with fail
   go_returns
   exact ⟨rfl, rfl⟩
 ·rw [decide_eq_false (fun h => h1 h.1)]
  have e1 : decide (a ≤ n) = false := decide_eq_false h1
  go_enter Try.func37, Try.ntmps37
  go_wp2_with fail
  go_returns
  exact ⟨rfl, rfl⟩
theorem long_any (s : ByteArray) (hs : s.size ≤ 140737488355328) (w : World) : Calls Try.prog 38 #[.string s] w fun e w' => e = .returned (.bool (decide (4032 < s.size))) ∧ w' = w := by
 by_cases h1 : 4032 < s.size
 ·rw [decide_eq_true h1]
  have e1 : decide ((s.size : Int) > 4032) = true := decide_eq_true (by omega)
  go_enter Try.func38, Try.ntmps38
  go_wp2_with fail
  go_returns
  exact ⟨rfl, rfl⟩
 ·rw [decide_eq_false h1]
  have e1 : decide ((s.size : Int) > 4032) = false := decide_eq_false (by omega)
  go_enter Try.func38, Try.ntmps38
  go_wp2_with fail
  go_returns
  exact ⟨rfl, rfl⟩
section
variable {B sb pb : Nat} {F : Nat → Prop} {w : World} {S : Sm} {As : Nat → Option Addr} {cs : Nat → Nat}
theorem peer_some (h : SAtX B F w sb S pb As cs) (hn : S.peers.length ≤ 16) (i : Nat) (hi : i < S.peers.length) (hne : (i : Int) + 1 ≠ S.node) :
  Calls Try.prog 46 #[.pointer (some ⟨sb, 0, none⟩), .int .i64 ((i : Int) + 1)] w fun e w' => e = .returned (.pointer (some ⟨pb, i * 5, none⟩)) ∧ w' = w := by
 have c0 := h.cel.cell (j := 0) rfl
 have c2 := h.cel.cell (j := 2) rfl
 obtain ⟨n, hn2⟩ : ∃ n, S.peers.length = n := ⟨_, rfl⟩
 rw [hn2] at c2 hi hn
 obtain ⟨nd, hnd⟩ : ∃ n, S.node = n := ⟨_, rfl⟩
 rw [hnd] at c0 hne
 have HA := Lib.hid (among_any ((i : Int) + 1) 1 (n : Int) w)
 rw [decide_eq_true (by omega : (1 : Int) ≤ (i : Int) + 1 ∧ (i : Int) + 1 ≤ (n : Int))] at HA
 have e1 : ((i : Int) + 1 == nd) = false := by simpa using hne
 have hwr : IntKind.i64.wrap ((i : Int) + 1 - 1) = (i : Int) := by rw [IntKind.wrap_i64]; omega
 clear h hn2 hnd hne
 go_enter Try.func46, Try.ntmps46
 go_wp2_with fail
 refine HA.out.mono ?_
 rintro e w1 ⟨rfl, rfl⟩
 go_wp2_with fail
 go_returns
 exact ⟨rfl, rfl⟩
theorem peer_none (h : SAtX B F w sb S pb As cs) (x : Int) (hx : other S x = false) :
  Calls Try.prog 46 #[.pointer (some ⟨sb, 0, none⟩), .int .i64 x] w fun e w' => e = .returned (.pointer none) ∧ w' = w := by
 have c0 := h.cel.cell (j := 0) rfl
 have c2 := h.cel.cell (j := 2) rfl
 have hx2 := of_decide_eq_false hx
 obtain ⟨n, hn2⟩ : ∃ n, S.peers.length = n := ⟨_, rfl⟩
 rw [hn2] at c2 hx2
 obtain ⟨nd, hnd⟩ : ∃ n, S.node = n := ⟨_, rfl⟩
 rw [hnd] at c0 hx2
 clear h hn2 hnd hx
 by_cases hne : x = nd
 ·have e1 : (x == nd) = true := by simpa using hne
  clear hne hx2
  go_enter Try.func46, Try.ntmps46
  go_wp2_with fail
  go_returns
  exact ⟨rfl, rfl⟩
 ·have e1 : (x == nd) = false := by simpa using hne
  have HA := Lib.hid (among_any x 1 (n : Int) w)
  rw [decide_eq_false (fun e : (1 : Int) ≤ x ∧ x ≤ (n : Int) => hx2 ⟨hne, e.1, e.2⟩)] at HA
  clear hne hx2
  go_enter Try.func46, Try.ntmps46
  go_wp2_with fail
  refine HA.out.mono ?_
  rintro e w1 ⟨rfl, rfl⟩
  go_wp2_with fail
  go_returns
  exact ⟨rfl, rfl⟩
theorem Known_some (h : SAtX B F w sb S pb As cs) (hn : S.peers.length ≤ 16) (i : Nat) (hi : i < S.peers.length) (hne : (i : Int) + 1 ≠ S.node) :
  Calls Try.prog 28 #[.pointer (some ⟨sb, 0, none⟩), .int .i64 ((i : Int) + 1)] w fun e w' => e = .returned (.int .i64 S.peers[i].known) ∧ w' = w := by
 have HP := Lib.hid (peer_some h hn i hi hne)
 have c0 : w.cell? ⟨pb, i * 5 + 2, none⟩ = _ := (h.peer i hi).cel.cell (j := 0) rfl
 obtain ⟨kn, hkn⟩ : ∃ n, S.peers[i].known = n := ⟨_, rfl⟩
 rw [hkn] at c0 ⊢
 clear h hkn hi hne hn
 go_enter Try.func28, Try.ntmps28
 go_wp2_with fail
 refine HP.out.mono ?_
 rintro e w1 ⟨rfl, rfl⟩
 go_wp2_with fail
 go_returns
 exact ⟨rfl, rfl⟩
theorem Held_some (h : SAtX B F w sb S pb As cs) (hn : S.peers.length ≤ 16) (i : Nat) (hi : i < S.peers.length) (hne : (i : Int) + 1 ≠ S.node) :
  Calls Try.prog 27 #[.pointer (some ⟨sb, 0, none⟩), .int .i64 ((i : Int) + 1)] w fun e w' => e = .returned (.int .i64 (S.peers[i].held.length : Int)) ∧ w' = w := by
 have HP := Lib.hid (peer_some h hn i hi hne)
 have c0 : w.cell? ⟨pb, i * 5 + 4, none⟩ = _ := (h.peer i hi).cel.cell (j := 2) rfl
 obtain ⟨kn, hkn⟩ : ∃ n, S.peers[i].held.length = n := ⟨_, rfl⟩
 rw [hkn] at c0 ⊢
 clear h hkn hi hne hn
 go_enter Try.func27, Try.ntmps27
 go_wp2_with fail
 refine HP.out.mono ?_
 rintro e w1 ⟨rfl, rfl⟩
 go_wp2_with fail
 go_returns
 exact ⟨rfl, rfl⟩
end
end Go.Proofs.Ytccdpgbmkiapdaa.Ses
