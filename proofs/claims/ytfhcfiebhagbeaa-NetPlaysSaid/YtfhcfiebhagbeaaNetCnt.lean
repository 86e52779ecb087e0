/-
  Layer 11: how often each packet was sent, in a map of the law's own. Conditions: none.
-/
import Derived.Test.YtfhcfiebhagbeaaNetAwk
import Derived.Test.YtfhcfiebhagbeaaNetAll
namespace Go.Proofs.Ytfhcfiebhagbeaa.Net
set_option maxRecDepth 100000
open Go.RowKit Go.Deep Go.Proofs.Ytfhcfiebhagbeaa.Mem

/-- Block m is a map in which stands how often each packet was sent. -/
def Cnt (w : World) (m : Nat) (f : Pk → Int) : Prop := ∃ n R, KM Try.prog 39 w m n R ∧ (∀ k v, R k v → ∃ p : Pk, k = p.val ∧ v = .int .i64 (f p)) ∧ ∀ p : Pk, (∀ v, ¬ R p.val v) → f p = 0
theorem Cnt.only {S : Nat → Prop} {w w' : World} {m : Nat} {f : Pk → Int} (h : Cnt w m f) (ho : Only S w w') (hn : ¬ S m) : Cnt w' m f := by
  obtain ⟨n, R, h1, h2⟩ := h
  exact ⟨n, R, h1.only ho hn, h2⟩
theorem Cnt.later {w w' : World} {m : Nat} {f : Pk → Int} (h : Cnt w m f) (hb : Below w.heap.size w w') : Cnt w' m f := h.only (Only.of_below (S := fun _ => False) hb) fun e => e
theorem Cnt.lt {w : World} {m : Nat} {f : Pk → Int} (h : Cnt w m f) : m < w.heap.size := by
  obtain ⟨n, R, h1, _⟩ := h
  exact h1.lt
theorem cnt_made (w : World) (c : Nat) : Cnt (w.alloc (.map #[] c)) w.heap.size fun _ => 0 := ⟨0, _, km_made _ _ w c, fun _ _ h => h.elim, fun _ _ => rfl⟩
theorem cnt_zero (u : World) : (zeroValue 3).run Try.prog u = .ok (.int .i64 0) u := Try.zeroValue3 u
theorem Cnt.look {w : World} {m : Nat} {f : Pk → Int} (h : Cnt w m f) {p : Pk} (hp : p.ok) : (Instr.lookup 58 (.map (some m)) p.val false).run Try.prog w = .ok (.int .i64 (f p)) w := by
  obtain ⟨n, R, h1, h2, h3⟩ := h
  obtain ⟨kl, hk⟩ := keyOf_pk hp
  rcases h1.look pk_keyed Try.underlying58 (cnt_zero w) hk false with ⟨v, hv, e⟩ | ⟨hv, e⟩
  · obtain ⟨q, eq, rfl⟩ := h2 _ _ hv
    rw [val_inj eq] at e ⊢
    exact e
  · rw [h3 p hv]
    exact e
/-- A packet's number is made another one. -/
theorem Cnt.bump {w : World} {m : Nat} {f : Pk → Int} (h : Cnt w m f) {p : Pk} (hp : p.ok) (x : Int) : ∃ v0 st w1 w2, (Instr.lookup 58 (.map (some m)) p.val false).run Try.prog w = .ok (.int .i64 (f p)) w ∧
    (Instr.mapEntry 58 (.map (some m)) p.val).run Try.prog w = .ok (.tuple #[v0, .int .i64 st]) w1 ∧ (Instr.lookup 58 (.map (some m)) p.val false).run Try.prog w1 = .ok (.int .i64 (f p)) w1 ∧
    (Instr.entryStore 58 (.map (some m)) (.int .i64 st) (.int .i64 x)).run Try.prog w1 = .ok () w2 ∧ Only (fun k => k = m) w w1 ∧ Cnt w2 m (fun q => if q = p then x else f q) ∧ Only (fun k => k = m) w w2 := by
  have hl := h.look hp
  obtain ⟨n, R, h1, h2, h3⟩ := h
  obtain ⟨kl, hk⟩ := keyOf_pk hp
  obtain ⟨v0, st, w1, w2, e1, k1, o1, e2, k2, o2⟩ := h1.entry pk_keyed Try.underlying58 cnt_zero hk (.int .i64 x)
  have hc1 : Cnt w1 m f := by
    refine ⟨_, _, k1, fun k v hr => ?_, fun q hq => ?_⟩
    · rcases hr with hr | ⟨rfl, rfl, hno⟩
      · exact h2 k v hr
      · exact ⟨p, rfl, by rw [h3 p hno]⟩
    · exact h3 q fun v hv => hq v (Or.inl hv)
  refine ⟨v0, st, w1, w2, hl, e1, hc1.look hp, e2, o1, ⟨_, _, k2, fun k v hr => ?_, fun q hq => ?_⟩, o2⟩
  · rcases hr with ⟨rfl, rfl⟩ | ⟨hne, hr⟩
    · exact ⟨p, rfl, by simp⟩
    · obtain ⟨q, rfl, rfl⟩ := h2 k v hr
      refine ⟨q, rfl, ?_⟩
      have e2 : ¬ q = p := fun e => hne (by rw [e])
      simp [e2]
  · by_cases e : q = p
    · subst e
      exact absurd (Or.inl ⟨rfl, rfl⟩) (hq _)
    · dsimp only
      rw [if_neg e]
      exact h3 q fun v hv => hq v (Or.inr ⟨fun e2 => e (val_inj e2), hv⟩)
/-- A net, and how often each packet was sent; some that were sent, and are not in the map yet. -/
structure Sta (B : Nat) (w : World) (b m mc : Nat) (N : Nt) (A : Option Addr) (c : Nat) (f : Pk → Int) (pend : List Pk) (u : Nat) : Prop where
  net : NetAt B w b m N A c
  cnt : Cnt w mc f
  low : B ≤ mc
  far : ¬ foot b m A mc
  le : ∀ p, (N.fl.count p : Int) ≤ f p + (pend.count p : Int)
  lo : ∀ p, 0 ≤ f p
  hi : ∀ p, f p ≤ (u : Int)
section
variable {B b m mc c u : Nat} {w w' : World} {N N' : Nt} {A : Option Addr} {f : Pk → Int} {pend : List Pk}
theorem Sta.later (h : Sta B w b m mc N A c f pend u) (hb : Below w.heap.size w w') : Sta B w' b m mc N A c f pend u := ⟨h.net.later hb, h.cnt.later hb, h.low, h.far, h.le, h.lo, h.hi⟩
theorem Sta.up {u' : Nat} (h : Sta B w b m mc N A c f pend u) (hu : u ≤ u') : Sta B w b m mc N A c f pend u' := ⟨h.net, h.cnt, h.low, h.far, h.le, h.lo, fun p => by have := h.hi p; omega⟩
/-- The net makes a step; what it may have more is told. -/
theorem Sta.step {pend' : List Pk} (h : Sta B w b m mc N A c f pend u) (hs : NStep B b m A w N' w') (hle : ∀ p, (N'.fl.count p : Int) ≤ f p + (pend'.count p : Int)) : ∃ A' c', Sta B w' b m mc N' A' c' f pend' u := by
  obtain ⟨A', c', k1, k2, k3⟩ := hs
  refine ⟨A', c', k1, h.cnt.only k2 h.far, h.low, fun e => ?_, hle, h.lo, h.hi⟩
  rcases e with e | e | e
  · exact h.far (Or.inl e)
  · exact h.far (Or.inr (Or.inl e))
  · rcases k3 mc e with e1 | e1
    · exact h.far (Or.inr (Or.inr e1))
    · have := h.cnt.lt
      omega
/-- The map turns. -/
theorem Sta.turn {g : Pk → Int} {pend' : List Pk} {u' : Nat} (h : Sta B w b m mc N A c f pend u) (hc : Cnt w' mc g) (ho : Only (fun k => k = mc) w w') (hle : ∀ p, (N.fl.count p : Int) ≤ g p + (pend'.count p : Int)) (hlo : ∀ p, 0 ≤ g p) (hhi : ∀ p, g p ≤ (u' : Int)) :
    Sta B w' b m mc N A c g pend' u' := ⟨h.net.only ho fun k hk e => h.far (by rw [← e]; exact hk), hc, h.low, h.far, hle, hlo, hhi⟩
end
theorem send1_count (N : Nt) (p q : Pk) : (send1 N p).1.fl.count q ≤ N.fl.count q + [p].count q := by
  unfold send1
  split
  · simp [List.count_append]
  · simp
theorem sendL_count (l : List Pk) : ∀ (N : Nt) (q : Pk), (sendL N l).1.fl.count q ≤ N.fl.count q + l.count q := by
  induction l with
  | nil => intro N q; simp [sendL]
  | cons p l ih =>
    intro N q
    have h1 := ih (send1 N p).1 q
    have h2 := send1_count N p q
    rw [sendL, List.count_cons]
    rw [List.count_cons] at h2
    simp only [List.count_nil] at h2
    dsimp only
    omega
theorem sendL_len (l : List Pk) : ∀ N : Nt, ((sendL N l).1.fl.length : Int) = N.fl.length + l.length - (sendL N l).2 := by
  induction l with
  | nil => intro N; simp [sendL]
  | cons p l ih =>
    intro N
    have h1 := ih (send1 N p).1
    have h2 : ((send1 N p).1.fl.length : Int) = N.fl.length + 1 - (send1 N p).2 := by
      unfold send1
      split
      · simp
      · simp
    rw [sendL]
    simp only [List.length_cons]
    omega
theorem rm_count (l : List Pk) (k : Nat) (p q : Pk) (h : l[k]? = some p) : (l.count q : Int) = ((rm l k).count q : Int) + (if q = p then 1 else 0) := by
  obtain ⟨hk, e⟩ := List.getElem?_eq_some_iff.1 h
  have h1 : l.count q = (l.take k ++ l.drop k).count q := by rw [List.take_append_drop]
  rw [h1]
  unfold rm
  rw [List.drop_eq_getElem_cons hk, List.count_append, List.count_append, List.count_cons, e]
  by_cases hq : q = p
  · subst hq
    simp
    omega
  · rw [if_neg hq]
    have : (p == q) = false := by simpa using fun e => hq e.symm
    rw [this]
    simp
end Go.Proofs.Ytfhcfiebhagbeaa.Net
