/-
  Layer 4 (disk): what a disk is, and what each call answers and leaves, as the document says. Conditions: none.
-/
import Derived.Test.YtfdhckfpkhoheaaDoorOnly
namespace Go.Proofs.YtfdhckfpkhoheaaDoor.Disk
open Go.RowKit Go.Proofs.YtfdhckfpkhoheaaDoor.Mem

/-- A disk: its bytes, how many are safe, its size, its fuse (-1: none), whether it is down. -/
structure Ds where
  b : List UInt8
  safe : Nat
  size : Nat
  fuse : Int
  down : Bool
structure Ds.Ok (d : Ds) : Prop where
  safe : d.safe ≤ d.b.length
  fits : d.b.length ≤ d.size
  size : d.size ≤ 1048576
  low : -1 ≤ d.fuse
  high : d.fuse ≤ 9223372036854775807
def empty (size : Nat) : Ds := ⟨[], 0, size, -1, false⟩
theorem empty_ok (size : Nat) (h : size ≤ 1048576) : (empty size).Ok := ⟨Nat.le_refl _, Nat.zero_le _, h, by show (-1 : Int) ≤ -1; decide, by show (-1 : Int) ≤ 9223372036854775807; decide⟩

/-- How many of n bytes a fuse lets by; what is left of it behind k. -/
def left (f : Int) (n : Nat) : Nat := if f < 0 then n else min n f.toNat
def spend (f : Int) (k : Nat) : Int := if f < 0 then f else f - k
theorem left_le (f : Int) (n : Nat) : left f n ≤ n := by unfold left; split <;> omega
theorem spend_zero (f : Int) : spend f 0 = f := by unfold spend; split <;> omega
theorem spend_add (f : Int) (j k : Nat) (h : j ≤ left f (j + k)) : spend (spend f j) k = spend f (j + k) := by
  unfold left at h
  unfold spend
  split
  · rename_i h1
    rfl
  · rename_i h1
    rw [if_neg h1] at h
    rw [if_neg (by omega)]
    omega

/-- One step of the fuse. -/
def stepS (d : Ds) : Ds := if d.fuse = 0 then { d with down := true } else { d with fuse := spend d.fuse 1 }
def appendS (d : Ds) (s : List UInt8) : Int × Ds :=
  if d.down = true then (7, d) else if d.size < d.b.length + s.length then (6, d)
  else (if left d.fuse s.length < s.length then 7 else 0, { d with b := d.b ++ s.take (left d.fuse s.length), fuse := spend d.fuse (left d.fuse s.length), down := decide (left d.fuse s.length < s.length) })
def syncS (d : Ds) : Int × Ds := if d.down = true then (7, d) else if d.fuse = 0 then (7, { d with down := true }) else (0, { d with safe := d.b.length, fuse := spend d.fuse 1 })
def dropS (d : Ds) (n : Int) : Int × Ds :=
  if d.down = true then (7, d) else if n < 0 ∨ (d.safe : Int) < n then (1, d) else if d.fuse = 0 then (7, { d with down := true })
  else (0, { d with b := d.b.drop n.toNat, safe := d.safe - n.toNat, fuse := spend d.fuse 1 })
def cutS (d : Ds) (n : Int) : Int × Ds :=
  if d.down = true then (7, d) else if n < 0 ∨ (d.b.length : Int) < n then (1, d) else (0, { d with b := d.b.take n.toNat, safe := min d.safe n.toNat })
def fuseS (d : Ds) (n : Int) : Ds := { d with fuse := if n < 0 then -1 else n }
def kept (d : Ds) (n : Int) : Nat := d.safe + min n.toNat (d.b.length - d.safe)
def crashS (d : Ds) (n : Int) : Ds := { d with b := d.b.take (kept d n), safe := kept d n, fuse := -1, down := false }

theorem spend_low (f : Int) (k n : Nat) (h : -1 ≤ f) (hk : k ≤ left f n) : -1 ≤ spend f k ∧ spend f k ≤ f := by
  unfold left at hk
  unfold spend
  split
  · omega
  · rename_i h1
    rw [if_neg h1] at hk
    omega
theorem appendS_ok {d : Ds} (h : d.Ok) (s : List UInt8) : (appendS d s).2.Ok := by
  unfold appendS
  split
  · exact h
  split
  · exact h
  · have hl := left_le d.fuse s.length
    have hs := spend_low d.fuse (left d.fuse s.length) s.length h.low (Nat.le_refl _)
    have hh := h.high
    have h1 := h.safe
    refine ⟨?_, ?_, h.size, hs.1, Int.le_trans hs.2 hh⟩
    · show d.safe ≤ (d.b ++ s.take _).length
      rw [List.length_append]; omega
    · show (d.b ++ s.take (left d.fuse s.length)).length ≤ d.size
      rw [List.length_append, List.length_take]; omega
theorem syncS_ok {d : Ds} (h : d.Ok) : (syncS d).2.Ok := by
  unfold syncS
  split
  · exact h
  split
  · exact ⟨h.safe, h.fits, h.size, h.low, h.high⟩
  · rename_i hf
    have hs := spend_low d.fuse 1 1 h.low (by have := h.low; unfold left; split <;> omega)
    have hh := h.high
    exact ⟨Nat.le_refl _, h.fits, h.size, hs.1, by show spend d.fuse 1 ≤ _; omega⟩
theorem dropS_ok {d : Ds} (h : d.Ok) (n : Int) : (dropS d n).2.Ok := by
  unfold dropS
  split
  · exact h
  split
  · exact h
  split
  · exact ⟨h.safe, h.fits, h.size, h.low, h.high⟩
  · have hs := spend_low d.fuse 1 1 h.low (by have := h.low; unfold left; split <;> omega)
    have hh := h.high
    have h1 := h.safe
    have h2 := h.fits
    refine ⟨?_, ?_, h.size, hs.1, by show spend d.fuse 1 ≤ _; omega⟩
    · show d.safe - n.toNat ≤ (d.b.drop n.toNat).length
      rw [List.length_drop]; omega
    · show (d.b.drop n.toNat).length ≤ d.size
      rw [List.length_drop]; omega
theorem cutS_ok {d : Ds} (h : d.Ok) (n : Int) : (cutS d n).2.Ok := by
  unfold cutS
  split
  · exact h
  split
  · exact h
  · have h1 := h.safe
    have h2 := h.fits
    refine ⟨?_, ?_, h.size, h.low, h.high⟩
    · show min d.safe n.toNat ≤ (d.b.take n.toNat).length
      rw [List.length_take]; omega
    · show (d.b.take n.toNat).length ≤ d.size
      rw [List.length_take]; omega
theorem fuseS_ok {d : Ds} (h : d.Ok) (n : Int) (hn : n ≤ 9223372036854775807) : (fuseS d n).Ok := by
  refine ⟨h.safe, h.fits, h.size, ?_, ?_⟩
  · show -1 ≤ (if n < 0 then -1 else n)
    split <;> omega
  · show (if n < 0 then -1 else n) ≤ _
    split <;> omega
theorem kept_le {d : Ds} (h : d.Ok) (n : Int) : kept d n ≤ d.b.length := by unfold kept; have := h.safe; omega
theorem crashS_ok {d : Ds} (h : d.Ok) (n : Int) : (crashS d n).Ok := by
  have h1 := kept_le h n
  have h2 := h.fits
  refine ⟨?_, ?_, h.size, by show (-1 : Int) ≤ -1; decide, by show (-1 : Int) ≤ _; decide⟩
  · show kept d n ≤ (d.b.take (kept d n)).length
    rw [List.length_take]; omega
  · show (d.b.take (kept d n)).length ≤ d.size
    rw [List.length_take]; omega
end Go.Proofs.YtfdhckfpkhoheaaDoor.Disk
