/-
  The plain mathematics of layer 5 (journal): records as frames, what a beginning of them tells, and what an append, a renewal and a crash leave. Conditions: none.
-/
import Derived.Test.YtfdhckfpkhoheaaDoorFrameMath
import Derived.Test.YtfdhckfpkhoheaaDoorDiskMath
namespace Go.Proofs.YtfdhckfpkhoheaaDoor.Journal
open Go.Proofs.YtfdhckfpkhoheaaDoor.Frame Go.Proofs.YtfdhckfpkhoheaaDoor.Disk

/-- The frames of these records. -/
def frs (ps : List (List UInt8)) : List UInt8 := (ps.map frm).flatten
theorem frs_append (a b : List (List UInt8)) : frs (a ++ b) = frs a ++ frs b := by unfold frs; rw [List.map_append, List.flatten_append]
theorem frs_cons (p : List UInt8) (b : List (List UInt8)) : frs (p :: b) = frm p ++ frs b := rfl
/-- No record is too long. -/
def fits (ps : List (List UInt8)) : Prop := ∀ p ∈ ps, p.length ≤ 4096
theorem fits_append {a b : List (List UInt8)} (h : fits a) (k : fits b) : fits (a ++ b) := fun p hp => (List.mem_append.1 hp).elim (h p) (k p)
theorem fr_frs {ps : List (List UInt8)} (h : fits ps) : fr (frs ps) = (ps, (frs ps).length) := by
  have e := fr_frm ps [] h
  rw [List.append_nil, fr_no (show err [] ≠ 0 by decide), List.append_nil] at e
  exact e

/-- What a beginning of the frames tells: a beginning of the records, as many as lie there whole. -/
theorem fr_take : ∀ (ps : List (List UInt8)) (m : Nat), fits ps → ∃ k, k ≤ ps.length ∧ fr ((frs ps).take m) = (ps.take k, (frs (ps.take k)).length) ∧ ∀ j, j ≤ ps.length → (frs (ps.take j)).length ≤ m → j ≤ k
  | [], m, _ => ⟨0, Nat.le_refl _, (by simp [frs]; rw [fr_no (show err [] ≠ 0 by decide)]), fun j hj _ => hj⟩
  | p :: ps, m, h => by
    have hp := h p (List.mem_cons_self ..)
    by_cases hm : m < (frm p).length
    · refine ⟨0, Nat.zero_le _, ?_, fun j hj hjm => ?_⟩
      · have e : (frs (p :: ps)).take m = (frm p).take m := by rw [frs_cons, List.take_append_of_le_length (by omega)]
        rw [e, fr_no (err_cut p m hp hm)]
        rfl
      · rcases j with _ | j
        · exact Nat.le_refl _
        · rw [List.take_succ_cons, frs_cons, List.length_append] at hjm
          omega
    · obtain ⟨k, hk, hf, hmost⟩ := fr_take ps (m - (frm p).length) fun q hq => h q (List.mem_cons_of_mem _ hq)
      refine ⟨k + 1, by simpa using hk, ?_, fun j hj hjm => ?_⟩
      · have e : (frs (p :: ps)).take m = frm p ++ (frs ps).take (m - (frm p).length) := by
          rw [frs_cons, List.take_append, List.take_of_length_le (by omega)]
        obtain ⟨e1, e2, e3⟩ := err_frm p ((frs ps).take (m - (frm p).length)) hp
        rw [e, fr_yes e1, e2, e3, hf, flen_frm p _ hp, List.take_succ_cons, frs_cons, List.length_append, frm_length]
      · rcases j with _ | j
        · omega
        · rw [List.take_succ_cons, frs_cons, List.length_append] at hjm
          have := hmost j (by simpa using hj) (by omega)
          omega

/-- What an Append of a journal on this disk answers and leaves. -/
def appJ (d : Ds) (force : Bool) (ps : List (List UInt8)) : Int × Ds :=
  if ps.any (fun p => decide (4096 < p.length)) then (5, d)
  else if (appendS d (frs ps)).1 = 0 ∧ force = true then syncS (appendS d (frs ps)).2 else appendS d (frs ps)
/-- What a Renew does. -/
def renJ (d : Ds) (ps : List (List UInt8)) : Int × Ds := if (appJ d true ps).1 = 0 then dropS (appJ d true ps).2 d.b.length else appJ d true ps
theorem fits_any {ps : List (List UInt8)} : (ps.any (fun p => decide (4096 < p.length))) = false ↔ fits ps := by
  unfold fits
  rw [List.any_eq_false]
  simp

/-- How a journal stands on its disk: these records are sure, these may be there; is it over? -/
structure On (z : Nat) (d : Ds) (sure maybe : List (List UInt8)) (over : Bool) : Prop where
  ok : d.Ok
  size : d.size = z
  fits : fits (sure ++ maybe)
  part : ∃ m, d.b = (frs (sure ++ maybe)).take m
  safe : (frs sure).length ≤ d.safe
  whole : over = false → d.b = frs (sure ++ maybe) ∧ d.down = false

theorem on_new (z : Nat) (hz : z ≤ 1048576) : On z (empty z) [] [] false := ⟨empty_ok _ hz, rfl, fun p hp => (by cases hp), ⟨0, rfl⟩, Nat.le_refl _, fun _ => ⟨rfl, rfl⟩⟩

theorem On.over {z : Nat} {d : Ds} {sure maybe : List (List UInt8)} {o : Bool} (h : On z d sure maybe o) : On z d sure maybe true := ⟨h.ok, h.size, h.fits, h.part, h.safe, fun e => (by cases e)⟩
theorem take_all (l : List UInt8) : l = l.take l.length := (List.take_length).symm

/-- What an append puts on a disk that isn't down and has room. -/
theorem append_room {d : Ds} (hd : d.down = false) (s : List UInt8) (hr : d.b.length + s.length ≤ d.size) :
    appendS d s = (if left d.fuse s.length < s.length then 7 else 0, { d with b := d.b ++ s.take (left d.fuse s.length), fuse := spend d.fuse (left d.fuse s.length), down := decide (left d.fuse s.length < s.length) }) := by
  unfold appendS
  rw [if_neg (by rw [hd]; simp), if_neg (by omega)]

/-- The bytes of an Append, ahead of the Sync. -/
theorem on_put {z : Nat} {d : Ds} {sure maybe : List (List UInt8)} (h : On z d sure maybe false) (ps : List (List UInt8)) (hp : Journal.fits ps) (hr : (frs (sure ++ (maybe ++ ps))).length ≤ z) :
    ((appendS d (frs ps)).1 = 7 ∧ On z (appendS d (frs ps)).2 sure (maybe ++ ps) true) ∨ ((appendS d (frs ps)).1 = 0 ∧ On z (appendS d (frs ps)).2 sure (maybe ++ ps) false) := by
  obtain ⟨hb, hdn⟩ := h.whole rfl
  have hl : frs (sure ++ (maybe ++ ps)) = d.b ++ frs ps := by rw [← List.append_assoc, frs_append, hb]
  have hroom : d.b.length + (frs ps).length ≤ d.size := by rw [hl, List.length_append] at hr; rw [h.size]; exact hr
  have hok := appendS_ok h.ok (frs ps)
  have hfit : Journal.fits (sure ++ (maybe ++ ps)) := by rw [← List.append_assoc]; exact fits_append h.fits hp
  rw [append_room hdn _ hroom] at hok ⊢
  by_cases hlt : left d.fuse (frs ps).length < (frs ps).length
  · refine Or.inl ⟨if_pos hlt, hok, h.size, hfit, ⟨d.b.length + left d.fuse (frs ps).length, ?_⟩, h.safe, fun e => (by cases e)⟩
    show d.b ++ (frs ps).take _ = _
    rw [hl, List.take_append, List.take_of_length_le (l := d.b) (by omega), Nat.add_sub_cancel_left]
  · have e : (frs ps).take (left d.fuse (frs ps).length) = frs ps := List.take_of_length_le (by omega)
    refine Or.inr ⟨if_neg hlt, hok, h.size, hfit, ⟨(d.b ++ frs ps).length, ?_⟩, h.safe, fun _ => ⟨?_, decide_eq_false hlt⟩⟩
    · show d.b ++ (frs ps).take _ = _
      rw [hl, e, List.take_length]
    · show d.b ++ (frs ps).take _ = _
      rw [hl, e]
/-- A Sync. -/
theorem on_sync {z : Nat} {d : Ds} {sure maybe : List (List UInt8)} (h : On z d sure maybe false) :
    ((syncS d).1 = 7 ∧ On z (syncS d).2 sure maybe true) ∨ ((syncS d).1 = 0 ∧ On z (syncS d).2 sure maybe false ∧ On z (syncS d).2 (sure ++ maybe) [] false) := by
  obtain ⟨hb, hdn⟩ := h.whole rfl
  have hok := syncS_ok h.ok
  unfold syncS at hok ⊢
  rw [if_neg (by rw [hdn]; simp)] at hok ⊢
  by_cases hf : d.fuse = 0
  · rw [if_pos hf] at hok ⊢
    exact Or.inl ⟨rfl, hok, h.size, h.fits, h.part, h.safe, fun e => (by cases e)⟩
  · rw [if_neg hf] at hok ⊢
    refine Or.inr ⟨rfl, ⟨hok, h.size, h.fits, h.part, Nat.le_trans h.safe h.ok.safe, fun _ => ⟨hb, hdn⟩⟩, ⟨hok, h.size, by rw [List.append_nil]; exact h.fits, ?_, ?_, fun _ => ⟨by rw [List.append_nil]; exact hb, hdn⟩⟩⟩
    · rw [List.append_nil]; exact h.part
    · show (frs (sure ++ maybe)).length ≤ d.b.length
      rw [hb]; exact Nat.le_refl _
/-- An Append: what it answers, and how the journal stands. -/
theorem on_append {z : Nat} {d : Ds} {sure maybe : List (List UInt8)} (h : On z d sure maybe false) (force : Bool) (ps : List (List UInt8)) (hr : (frs (sure ++ (maybe ++ ps))).length ≤ z) :
    ((appJ d force ps).1 = 5 ∧ (appJ d force ps).2 = d) ∨
    ((appJ d force ps).1 = 7 ∧ On z (appJ d force ps).2 sure (maybe ++ ps) true) ∨
    ((appJ d force ps).1 = 0 ∧ Journal.fits ps ∧ On z (appJ d force ps).2 sure (maybe ++ ps) false ∧ (force = true → On z (appJ d force ps).2 (sure ++ (maybe ++ ps)) [] false)) := by
  unfold appJ
  cases ha : ps.any (fun p => decide (4096 < p.length)) with
  | true => exact Or.inl ⟨rfl, rfl⟩
  | false =>
    have hp := fits_any.1 ha
    rw [if_neg (by simp)]
    rcases on_put h ps hp hr with ⟨h1, h2⟩ | ⟨h1, h2⟩
    · rw [if_neg (by rw [h1]; rintro ⟨h, _⟩; cases h)]
      exact Or.inr (Or.inl ⟨h1, h2⟩)
    · cases force with
      | false =>
        rw [if_neg (by simp)]
        exact Or.inr (Or.inr ⟨h1, hp, h2, fun e => (by cases e)⟩)
      | true =>
        rw [if_pos ⟨h1, rfl⟩]
        rcases on_sync h2 with ⟨h3, h4⟩ | ⟨h3, h4, h5⟩
        · exact Or.inr (Or.inl ⟨h3, h4⟩)
        · exact Or.inr (Or.inr ⟨h3, hp, h4, fun _ => h5⟩)
/-- A Renew. -/
theorem on_renew {z : Nat} {d : Ds} {sure maybe : List (List UInt8)} (h : On z d sure maybe false) (ps : List (List UInt8)) (hr : (frs (sure ++ (maybe ++ ps))).length ≤ z) :
    ((renJ d ps).1 = 5 ∧ (renJ d ps).2 = d) ∨
    ((renJ d ps).1 = 7 ∧ On z (renJ d ps).2 sure (maybe ++ ps) true) ∨
    ((renJ d ps).1 = 0 ∧ On z (renJ d ps).2 ps [] false) := by
  have hb := (h.whole rfl).1
  unfold renJ
  rcases on_append h true ps hr with ⟨h1, h2⟩ | ⟨h1, h2⟩ | ⟨h1, hp, h2, h3⟩
  · rw [if_neg (by rw [h1]; decide)]; exact Or.inl ⟨h1, h2⟩
  · rw [if_neg (by rw [h1]; decide)]; exact Or.inr (Or.inl ⟨h1, h2⟩)
  · rw [if_pos h1]
    generalize (appJ d true ps).2 = d1 at *
    have hs := h3 rfl
    obtain ⟨hb1, hdn1⟩ := h2.whole rfl
    have hl : frs (sure ++ (maybe ++ ps)) = d.b ++ frs ps := by rw [← List.append_assoc, frs_append, hb]
    have hsafe : d1.b.length ≤ d1.safe := by rw [hb1]; exact hs.safe
    have hlen : d1.b.length = d.b.length + (frs ps).length := by rw [hb1, hl, List.length_append]
    have hok := dropS_ok h2.ok (d.b.length : Int)
    unfold dropS at hok ⊢
    rw [if_neg (by rw [hdn1]; simp), if_neg (by omega)] at hok ⊢
    by_cases hf : d1.fuse = 0
    · rw [if_pos hf] at hok ⊢
      exact Or.inr (Or.inl ⟨rfl, hok, h2.size, h2.fits, h2.part, h2.safe, fun e => (by cases e)⟩)
    · rw [if_neg hf] at hok ⊢
      have hd : d1.b.drop ((d.b.length : Int).toNat) = frs (ps ++ []) := by rw [hb1, hl, Int.toNat_natCast, List.drop_left, List.append_nil]
      refine Or.inr (Or.inr ⟨rfl, hok, h2.size, by rw [List.append_nil]; exact hp, ⟨(frs (ps ++ [])).length, ?_⟩, ?_, fun _ => ⟨hd, hdn1⟩⟩)
      · show d1.b.drop _ = _
        rw [hd, List.take_length]
      · show (frs ps).length ≤ d1.safe - (d.b.length : Int).toNat
        rw [Int.toNat_natCast]
        omega
/-- A fuse. -/
theorem on_fuse {z : Nat} {d : Ds} {sure maybe : List (List UInt8)} {o : Bool} (h : On z d sure maybe o) (n : Int) (hn : n ≤ 9223372036854775807) : On z (fuseS d n) sure maybe o :=
  ⟨fuseS_ok h.ok n hn, h.size, h.fits, h.part, h.safe, h.whole⟩
/-- What is told behind a crash. -/
theorem on_crash {z : Nat} {d : Ds} {sure maybe : List (List UInt8)} {o : Bool} (h : On z d sure maybe o) (n : Int) :
    ∃ k, sure.length ≤ k ∧ k ≤ (sure ++ maybe).length ∧ (fr (crashS d n).b).1 = (sure ++ maybe).take k := by
  obtain ⟨m, hm⟩ := h.part
  have hk := kept_le h.ok n
  have hks : d.safe ≤ kept d n := by unfold kept; omega
  have e : (crashS d n).b = (frs (sure ++ maybe)).take (min (kept d n) m) := by
    show d.b.take (kept d n) = _
    rw [hm, List.take_take]
  obtain ⟨k, h1, h2, h3⟩ := fr_take (sure ++ maybe) (min (kept d n) m) h.fits
  refine ⟨k, h3 _ (by rw [List.length_append]; omega) ?_, h1, by rw [e, h2]⟩
  rw [List.take_left]
  have hs := h.safe
  have hl : d.b.length ≤ m := by rw [hm, List.length_take]; omega
  omega
/-- Without a fuse an Append of what fits goes through. -/
theorem on_free {z : Nat} {d : Ds} {sure maybe : List (List UInt8)} (h : On z d sure maybe false) (hf : d.fuse < 0) (force : Bool) (ps : List (List UInt8)) (hp : Journal.fits ps) (hr : (frs (sure ++ (maybe ++ ps))).length ≤ z) :
    (appJ d force ps).1 = 0 ∧ (appJ d force ps).2.fuse < 0 := by
  obtain ⟨hb, hdn⟩ := h.whole rfl
  have hl : frs (sure ++ (maybe ++ ps)) = d.b ++ frs ps := by rw [← List.append_assoc, frs_append, hb]
  have hroom : d.b.length + (frs ps).length ≤ d.size := by rw [hl, List.length_append] at hr; rw [h.size]; exact hr
  have hleft : left d.fuse (frs ps).length = (frs ps).length := by unfold left; rw [if_pos hf]
  unfold appJ
  rw [if_neg (by rw [fits_any.2 hp]; simp), append_room hdn _ hroom, hleft]
  simp only [Nat.lt_irrefl, if_false, decide_false]
  have hsp : spend d.fuse (frs ps).length = d.fuse := by unfold spend; rw [if_pos hf]
  cases force with
  | false => exact ⟨rfl, by show spend d.fuse _ < 0; rw [hsp]; exact hf⟩
  | true =>
    simp only [true_and, if_true]
    unfold syncS
    simp only [hsp]
    rw [if_neg (by simp), if_neg (by omega)]
    exact ⟨rfl, by show spend d.fuse 1 < 0; unfold spend; rw [if_pos hf]; exact hf⟩
/-- Without a fuse, exactly. -/
theorem appJ_free {d : Ds} (hd : d.down = false) (hf : d.fuse = -1) (force : Bool) (ps : List (List UInt8)) (hp : Journal.fits ps) (hr : d.b.length + (frs ps).length ≤ d.size) :
    appJ d force ps = (0, { d with b := d.b ++ frs ps, safe := if force = true then d.b.length + (frs ps).length else d.safe }) := by
  have hl : left d.fuse (frs ps).length = (frs ps).length := by unfold left; rw [if_pos (by omega)]
  have hs : ∀ k, spend d.fuse k = d.fuse := fun k => by unfold spend; rw [if_pos (by omega)]
  have e : appendS d (frs ps) = (0, { d with b := d.b ++ frs ps }) := by
    rw [append_room hd _ hr, hl, hs, if_neg (Nat.lt_irrefl _), List.take_length, decide_eq_false (Nat.lt_irrefl _), hd]
  unfold appJ
  rw [if_neg (by rw [fits_any.2 hp]; simp), e]
  cases force with
  | false => rfl
  | true =>
    simp only [and_self, if_true]
    unfold syncS
    simp only [hd]
    rw [if_neg (by simp), if_neg (by omega), hs, List.length_append]
/-- What is told where the second of two records broke off. -/
theorem fr_first (p q : List UInt8) (n : Nat) (hp : p.length ≤ 4096) (hq : q.length ≤ 4096) (hn : n < 6 + q.length) : (fr ((frs [p] ++ frs [q]).take ((frs [p]).length + n))).1 = [p] := by
  rw [← frs_append]
  obtain ⟨k, hk, hf, hmost⟩ := fr_take ([p] ++ [q]) ((frs [p]).length + n) (fun x hx => by
    simp only [List.mem_append, List.mem_singleton] at hx
    rcases hx with rfl | rfl
    · exact hp
    · exact hq)
  have h1 := hmost 1 (by simp) (by show (frs [p]).length ≤ _; omega)
  have h2 : k ≠ 2 := by
    rintro rfl
    have hs := (fr_small _ _ (Nat.le_refl ((frs ([p] ++ [q])).take ((frs [p]).length + n)).length)).2.2
    rw [hf, List.length_take] at hs
    have e : ([p] ++ [q]).take 2 = [p] ++ [q] := rfl
    simp only [e, frs_append, List.length_append] at hs
    have e2 : (frs [q]).length = 6 + q.length := by rw [frs_cons, List.length_append, frm_length]; rfl
    omega
  simp only [List.length_append, List.length_singleton] at hk
  obtain rfl : k = 1 := by omega
  rw [hf]
  rfl
/-- Where all stands whole nothing is cut. -/
theorem cut_whole {d : Ds} (ho : d.Ok) (hd : d.down = false) {ps : List (List UInt8)} (hp : Journal.fits ps) (hb : d.b = frs ps) : (cutS d ((fr d.b).2 : Nat)).2 = d := by
  have e : (fr d.b).2 = d.b.length := by rw [hb, fr_frs hp]
  have h1 := ho.safe
  unfold cutS
  rw [if_neg (by rw [hd]; simp), e, if_neg (by omega)]
  obtain ⟨b, s, z, f, dn⟩ := d
  simp only [Int.toNat_natCast, List.take_length] at *
  rw [Nat.min_eq_left h1]
end Go.Proofs.YtfdhckfpkhoheaaDoor.Journal
