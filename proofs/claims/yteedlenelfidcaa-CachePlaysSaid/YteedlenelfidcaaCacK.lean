/-
  Layer 17, CacheKeeps: what is kept, act by act; steps one behind the other. Conditions: none.
-/
import Derived.Test.YteedlenelfidcaaCacAwk
namespace Go.Proofs.Yteedlenelfidcaa.Cac
set_option maxRecDepth 100000
open Go.RowKit Go.Deep Go.Proofs.Yteedlenelfidcaa.Mem

/-- No entry's version falls, as long as it is there. -/
def Keep (R R' : Cc) : Prop := ∀ x ∈ R.l, ∀ y ∈ R'.l, y.cell = x.cell → x.ver ≤ y.ver
theorem Cok.same {R : Cc} (h : Cok R) {x y : En} (hx : x ∈ R.l) (hy : y ∈ R.l) (e : y.cell = x.cell) : y = x := by
  have h1 := find_mem h.one hx
  rw [← e, find_mem h.one hy] at h1
  exact Option.some.inj h1
theorem Keep.sub {R R' : Cc} (h : Cok R) (hs : ∀ y ∈ R'.l, y ∈ R.l) : Keep R R' := fun x hx y hy e => by rw [h.same hx (hs y hy) e]; exact Int.le_refl _
theorem Keep.use {R : Cc} (h : Cok R) (c : Int) : Keep R (useE R c) := Keep.sub h fun y hy => by
  unfold useE at hy
  split at hy
  · rename_i x hx
    rcases List.mem_append.1 hy with e | e
    · exact ((del_mem h.one).1 e).1
    · rw [List.mem_singleton.1 e]; exact (find_some hx).1
  · exact hy
theorem Keep.stale {R : Cc} (h : Cok R) (c v : Int) : Keep R (staleE R c v).2 := Keep.sub h fun y hy => by
  unfold staleE at hy
  split at hy
  · exact ((del_mem h.one).1 hy).1
  · exact hy
theorem drops_sub : ∀ (l : List Int) (R : Cc), ∀ y ∈ (dropsE R l).2.l, y ∈ R.l
  | [], _, _, hy => hy
  | c :: l, R, y, hy => (del_sub c R.l).subset (drops_sub l _ y hy)
theorem Keep.drops {R : Cc} (h : Cok R) (l : List Int) : Keep R (dropsE R l).2 := Keep.sub h (drops_sub l R)
theorem Keep.put {R : Cc} (h : Cok R) (e : En) : Keep R (putE R e).2 := by
  intro x hx y hy hc
  unfold putE at hy
  split at hy
  · rename_i z hz
    split at hy
    · rw [h.same hx hy hc]; exact Int.le_refl _
    · rename_i hv
      rcases List.mem_append.1 hy with q | q
      · rw [h.same hx ((del_mem h.one).1 q).1 hc]; exact Int.le_refl _
      · have hy2 : y = e := List.mem_singleton.1 q
        have h1 := find_mem h.one hx
        rw [← hc, hy2, hz] at h1
        have h2 : z = x := Option.some.inj h1
        rw [hy2, ← h2]
        omega
  · rename_i hz
    have hno := find_none.1 hz
    rcases List.mem_append.1 hy with q | q
    · have q2 : y ∈ R.l := by
        split at q
        · exact List.mem_of_mem_tail q
        · exact q
      rw [h.same hx q2 hc]; exact Int.le_refl _
    · exact absurd (by rw [← hc, List.mem_singleton.1 q]) (hno x hx)
theorem Keep.puts {R : Cc} (h : Cok R) : ∀ (l : List En), l.length ≤ 1 → Keep R (putsE R l).2
  | [], _ => Keep.sub h fun _ hy => hy
  | [e], _ => Keep.put h e
  | _ :: _ :: _, hl => by simp at hl
/-- What stands there behind a put. -/
theorem put_there {R : Cc} (h : Cok R) (e : En) : ∃ y, findE e.cell (putE R e).2.l = some y ∧ ((putE R e).1 = true → y = e) ∧ ((putE R e).1 = false → e.ver < y.ver) := by
  have hk := h.put e
  by_cases ht : (putE R e).1 = true
  · refine ⟨e, find_mem hk.one ?_, fun _ => rfl, fun q => by rw [q] at ht; cases ht⟩
    unfold putE at ht ⊢
    split at ht
    · rename_i z hz
      split at ht
      · cases ht
      · rename_i hv
        simp [hv]
    · simp
  · have ht2 : (putE R e).1 = false := by simpa using ht
    unfold putE at ht2 ⊢
    split at ht2
    · rename_i z hz
      split at ht2
      · rename_i hv
        refine ⟨z, ?_, fun q => ?_, fun _ => hv⟩
        · simp [hz, hv]
        · simp [hv] at q
      · cases ht2
    · cases ht2
/-- What stands there behind a Stale. -/
theorem stale_there {R : Cc} (h : Cok R) (c v : Int) : hasE c (staleE R c v).2.l = true → v ≤ (getD0 c (staleE R c v).2.l).ver := by
  intro hh
  have hk := h.stale c v
  unfold staleE at hh hk ⊢
  split
  · rename_i hs
    rw [if_pos hs] at hh
    unfold hasE at hh
    obtain ⟨y, hy⟩ := Option.isSome_iff_exists.1 hh
    exact absurd (find_some hy).2 ((del_mem h.one).1 (find_some hy).1).2
  · rename_i hs
    rw [if_neg hs] at hh
    have : ¬ (getD0 c R.l).ver < v := fun q => hs ⟨hh, q⟩
    show v ≤ (getD0 c R.l).ver
    omega
theorem puts_room : ∀ (l : List En) (R : Cc), (putsE R l).2.room = R.room
  | [], _ => rfl
  | e :: l, R => (puts_room l _).trans (put_room R e)
theorem drops_room : ∀ (l : List Int) (R : Cc), (dropsE R l).2.room = R.room
  | [], _ => rfl
  | _ :: l, _ => drops_room l _
theorem use_room (R : Cc) (c : Int) : (useE R c).room = R.room := by
  unfold useE
  split <;> rfl
theorem stale_room (R : Cc) (c v : Int) : (staleE R c v).2.room = R.room := by
  unfold staleE
  split <;> rfl
/-- A call behind steps. -/
theorem stepC {B rb : Nat} {A : Option Addr} {wv wx W : World} {R R' : Cc} {f : Nat} {args : Array Value} {Q : Ending → Prop} (h : CcStep B rb A wv R wx) (hc : ∀ A1 c1, CcAt B wx rb R A1 c1 → Calls Try.prog f args W fun e w' => Q e ∧ CcStep B rb A1 wx R' w') :
    Calls Try.prog f args W fun e w' => Q e ∧ CcStep B rb A wv R' w' := by
  obtain ⟨A1, c1, k1, k2, k3⟩ := h
  exact (hc A1 c1 k1).mono fun e w' q => ⟨q.1, CxStep.next k2 k3 q.2⟩
theorem sl_lt {w : World} {A : Option Addr} {sz : Nat} {vs : List (List Value)} (h : Sl w A sz vs) (hv : ∀ v ∈ vs, v ≠ []) (hne : vs ≠ []) {k : Nat} (e : blk A = some k) : k < w.heap.size := by
  match vs, hne with
  | v :: l, _ =>
    obtain ⟨b, off, e2, hr⟩ := h 0 (by simp)
    rw [e2] at e
    obtain rfl : b = k := Option.some.inj e
    have hv2 := hv v List.mem_cons_self
    match v, hv2 with
    | u :: r, _ => exact block_of_cell (hr 0 u rfl)
end Go.Proofs.Yteedlenelfidcaa.Cac
