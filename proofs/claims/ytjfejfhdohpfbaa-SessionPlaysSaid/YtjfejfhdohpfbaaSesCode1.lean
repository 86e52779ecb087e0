/-
  Layer 14: room, begin, a payload's tick; an element of a row of the call's own. Conditions: none.
-/
import Derived.Test.YtjfejfhdohpfbaaSesAt
import Derived.BigQuiet
namespace Go.Proofs.Ytjfejfhdohpfbaa.Ses
set_option maxRecDepth 100000
open Go.RowKit Go.Deep Go.Proofs.Ytjfejfhdohpfbaa.Mem Go.Proofs.Ytjfejfhdohpfbaa.Win

theorem flatten_set {sz : Nat} {u : Value} : ∀ {vs : List (List Value)}, (∀ v ∈ vs, v.length = sz) → ∀ (k : Nat) (hk : k < vs.length) (j : Nat), j < sz → vs.flatten.set (k * sz + j) u = (vs.set k (vs[k].set j u)).flatten
  | [], _, k, hk, _, _ => by simp at hk
  | v :: vs, h, k, hk, j, hj => by
    have hv := h v List.mem_cons_self
    cases k with
    | zero =>
      rw [List.flatten_cons, Nat.zero_mul, Nat.zero_add, List.set_append_left _ _ (by omega)]
      rfl
    | succ k =>
      rw [List.flatten_cons, List.set_append_right _ _ (by rw [hv, Nat.succ_mul]; omega), show (k + 1) * sz + j - v.length = k * sz + j by rw [hv, Nat.succ_mul]; omega, flatten_set (fun x hx => h x (List.mem_cons_of_mem _ hx)) k (by simpa using hk) j hj]
      rfl
section
variable {α : Type} {eT : TypeId} {sz B g n c : Nat} {vals : α → List Value} {w : World} {l : List α}
/-- An element of a row of the call's own. -/
theorem OwnG.elem {V : Option Addr} (hf : ∀ l : List α, Fit sz (l.map vals)) (h : OwnG eT sz vals B w (.slice V n c) l) {k : Nat} (hk : k < l.length) : ∃ g, V = some ⟨g, 0, none⟩ ∧ CellsO w g (k * sz) (vals l[k]) := by
  unfold OwnG at h
  rcases h.2 with ⟨_, e⟩ | ⟨g, cap, cur, e, k2, k3, k4, k5, k6, k7⟩
  · omega
  · simp only [Value.slice.injEq] at e
    obtain ⟨rfl, e2, rfl⟩ := e
    refine ⟨g, rfl, cur, _, 0, 0, k3, fun j u hu => ?_, fun j _ hj => by omega⟩
    have hj : j < sz := by
      have := (List.getElem?_eq_some_iff.1 hu).1
      rwa [(hf [l[k]]).len _ (by simp)] at this
    have e3 := flatten_at (vs := l.map vals) (sz := sz) (hf l).len k (by rw [List.length_map]; exact hk) j hj
    rw [List.getElem_map, hu, ← k7, List.getElem?_take] at e3
    split at e3
    · simpa using e3
    · cases e3
/-- A cell of an element is written. -/
theorem OwnG.setC (hf : ∀ l : List α, Fit sz (l.map vals)) (h : OwnG eT sz vals B w (.slice (some ⟨g, 0, none⟩) n c) l) {k j : Nat} (hk : k < l.length) (hj : j < sz) {u : Value} (h1 : u.oneCell' = true) {x : α} (hx : vals x = (vals l[k]).set j u) :
    OwnG eT sz vals B (w.setCell ⟨g, k * sz + j, none⟩ u) (.slice (some ⟨g, 0, none⟩) n c) (l.set k x) := by
  obtain ⟨rfl, _⟩ := OwnG.sl hf h
  unfold OwnG at h ⊢
  have hm : k * sz + sz ≤ l.length * sz := by rw [← Nat.succ_mul]; exact Nat.mul_le_mul_right _ hk
  have hlen := flatten_len (hf l).len
  rw [List.length_map] at hlen
  obtain ⟨r, _, _⟩ := row_put h (o := k * sz + j) (l := [u]) (by simp only [List.length_singleton]; omega) (by simp [h1])
  have e : over (l.map vals).flatten (k * sz + j) [u] = ((l.set k x).map vals).flatten := by
    rw [over_eq, List.length_singleton, List.map_set, hx, ← List.getElem_map (f := vals) (h := by rw [List.length_map]; exact hk), ← flatten_set (hf l).len k (by rw [List.length_map]; exact hk) j hj, List.set_eq_take_append_cons_drop, if_pos (by omega)]
    simp
  rw [e] at r
  rw [List.length_set]
  exact r
/-- An element is written. -/
theorem OwnG.putC (hf : ∀ l : List α, Fit sz (l.map vals)) (h : OwnG eT sz vals B w (.slice (some ⟨g, 0, none⟩) n c) l) {k : Nat} (hk : k < l.length) (x : α) :
    OwnG eT sz vals B (w.setCells g (k * sz) (vals x)) (.slice (some ⟨g, 0, none⟩) n c) (l.set k x) ∧ Only (fun i => i = g) w (w.setCells g (k * sz) (vals x)) := by
  obtain ⟨rfl, _⟩ := OwnG.sl hf h
  unfold OwnG at h ⊢
  have hm : k * sz + sz ≤ l.length * sz := by rw [← Nat.succ_mul]; exact Nat.mul_le_mul_right _ hk
  have hxl := (hf [x]).len (vals x) (by simp)
  obtain ⟨r, ho, _⟩ := row_put h (o := k * sz) (l := vals x) (by omega) ((hf [x]).one (vals x) (by simp))
  have e := over_at (k := k) (x := vals x) (hf l).len hxl (by rw [List.length_map]; exact hk)
  rw [e, ← List.map_set] at r
  rw [List.length_set]
  exact ⟨r, ho⟩
end
/-- Append onto a row of the call's own. -/
theorem OwnG.appS {α : Type} {sT eT : TypeId} {zv : Value} {sz bytes : Nat} {vals : α → List Value} {B : Nat} {w : World} {v : Value} {l m : List α} (E : Elem sT eT zv sz bytes) (hf : ∀ l : List α, Fit sz (l.map vals)) (h : OwnG eT sz vals B w v l)
    {A : Option Addr} {c : Nat} (hs : Sl w A sz (m.map vals)) (hA : A = none → c = 0) (hB : B ≤ w.heap.size) (hl : l.length + m.length ≤ 100000) :
    ∃ V' n' c' w', (Builtin.append_ #[sT, sT] sT #[v, .slice A m.length c]).run Try.prog w = .ok (.slice V' n' c') w' ∧ OwnG eT sz vals B w' (.slice V' n' c') (l ++ m) ∧ n' = (l ++ m).length ∧ Only (fun k => v.ownBlock = some k) w w' ∧ ∀ k, blk V' = some k → v.ownBlock = some k ∨ w.heap.size ≤ k := by
  obtain ⟨v', w', hrun, hrow, hg, hnb⟩ := run_append_rows E w sT B v (l.map vals) (m.map vals) A c (hf _) (hf _) (by rw [List.length_map]; exact h) hs hA (by rw [List.length_map, List.length_map]; omega) hB
  obtain ⟨A', c', rfl⟩ := row_slice hrow
  rw [← List.map_append] at hrow hrun hnb
  rw [List.length_map] at hrun hrow
  rw [List.length_map] at hrun
  refine ⟨A', _, c', w', hrun, hrow, rfl, (Only.of_grown hg).mono fun k _ e => e.symm, fun k e => ?_⟩
  rw [own_blk] at hnb
  rcases hnb with e2 | e2
  · exact Or.inl (e2.symm.trans e)
  · have e3 : w.heap.size = k := Option.some.inj (e2.symm.trans e)
    exact Or.inr (by omega)
theorem el_hd : Elem 116 144 (.agg #[.int .i64 0, .string ⟨#[]⟩, .int .i64 0, .int .i64 0]) 4 40 := ⟨Try.underlying116, by kernel_rfl, rfl, by decide, by decide⟩
theorem el_ot : Elem 48 89 (.agg #[.int .i64 0, .int .i64 0, .int .i64 0, .int .i64 0, .int .i64 0, .string ⟨#[]⟩]) 6 56 := ⟨Try.underlying48, by kernel_rfl, rfl, by decide, by decide⟩
section
variable {B pb o ac N : Nat} {w : World} {p : Pm} {A : Option Addr}
theorem room_any (h : PAt B w pb o p A ac) (hp : Pok N p) (hN : N ≤ 1000000000000) (m : Nat) (hm : m ≤ 1000000) :
    Calls Try.prog 48 #[.pointer (some ⟨pb, o, none⟩), .int .i64 (m : Int)] w fun e w' => e = .returned (.bool (roomP p m)) ∧ Below w.heap.size w w' := by
  have c3 : w.cell? ⟨pb, o + 3, none⟩ = _ := h.cel.cell (j := 1) rfl
  have c4 : w.cell? ⟨pb, o + 4, none⟩ = _ := h.cel.cell (j := 2) rfl
  have hl := hp.len
  have hl0 := hp.l0
  have hl1 := hp.l1
  obtain ⟨v, hv⟩ : ∃ v, roomP p m = v := ⟨_, rfl⟩
  rw [hv]
  unfold roomP at hv
  obtain ⟨n, hn⟩ : ∃ n, p.held.length = n := ⟨_, rfl⟩
  have hwr0 : IntKind.i64.wrap ((n : Int) + (m : Int)) = (n : Int) + (m : Int) := by rw [IntKind.wrap_i64]; omega
  by_cases hnm : n + m ≤ 32
  · have e0 : decide ((n : Int) + (m : Int) > 32) = false := decide_eq_false (by omega)
    by_cases hn0 : n = 0
    · subst hn0
      obtain rfl : v = true := by
        rw [← hv, List.eq_nil_of_length_eq_zero hn]
        exact decide_eq_true ⟨by simpa using hnm, fun h e => by simp at e⟩
      rw [hn] at c4
      clear h hp hv hn
      go_enter Try.func48, Try.ntmps48
      go_wp2_with fail
      go_quiet (fail)
      go_wp2_with fail
      go_returns
      exact ⟨rfl, below_drewN (Below.refl _ _) _⟩
    · have hk : 0 < p.held.length := by omega
      obtain ⟨g, rfl, hc⟩ := OwnG.elem fit_hd h.row hk
      rw [Nat.zero_mul] at hc
      have x0 : w.cell? ⟨g, 0, none⟩ = _ := hc.cell (j := 0) rfl
      have hx := hp.held p.held[0] (List.getElem_mem hk)
      obtain ⟨q, hq⟩ : ∃ q, p.held[0].seq = q := ⟨_, rfl⟩
      have hq0 := hx.s0
      have hq1 := hx.s1
      obtain ⟨ls, hls⟩ : ∃ ls, p.last = ls := ⟨_, rfl⟩
      have hve : v = decide (ls + (m : Int) < q + 64) := by
        rw [← hv]
        refine decide_eq_decide.2 ⟨fun e => ?_, fun e => ⟨by omega, fun h e2 => ?_⟩⟩
        · have := e.2 _ (List.getElem?_eq_getElem hk)
          rw [hq, hls] at this
          exact this
        · rw [List.getElem?_eq_getElem hk] at e2
          rw [← Option.some.inj e2, hq, hls]
          exact e
      rw [hn] at c4
      rw [hls] at c3 hl0 hl1
      rw [hq] at x0 hq0 hq1
      have hwr1 : IntKind.i64.wrap (ls + (m : Int)) = ls + (m : Int) := by rw [IntKind.wrap_i64]; omega
      have hwr2 : IntKind.i64.wrap (q + 64) = q + 64 := by rw [IntKind.wrap_i64]; omega
      have hn1 : ((n : Int) == 0) = false := by simp; omega
      have hkn : 0 < n := by omega
      clear h hp hv hn hx hc hk hq hls
      go_enter Try.func48, Try.ntmps48
      go_wp2_with fail
      go_quiet (fail)
      go_wp2_with fail
      go_returns
      exact ⟨ret_val (by rw [hve]; rfl), below_drewN (Below.refl _ _) _⟩
  · have e0 : decide ((n : Int) + (m : Int) > 32) = true := decide_eq_true (by omega)
    obtain rfl : v = false := by
      rw [← hv, hn]
      exact decide_eq_false fun e => hnm e.1
    rw [hn] at c4
    clear h hp hv hn
    go_enter Try.func48, Try.ntmps48
    go_wp2_with fail
    go_returns
    exact ⟨rfl, Below.refl _ _⟩
end
/-- A held payload's delay begins anew. -/
theorem begin_any {w : World} {g o : Nat} {h : Hd} (hc : CellsO w g (o) h.vals) :
    Calls Try.prog 68 #[.pointer (some ⟨g, o, none⟩)] w fun e w' => e = .returned (.tuple #[]) ∧ w' = (w.setCell ⟨g, o + 2, none⟩ (.int .i64 4)).setCell ⟨g, o + 3, none⟩ (.int .i64 4) := by
  have c2 := hc.cell (j := 2) rfl
  have c3 := hc.cell (j := 3) rfl
  have f2 := hc.frozen (j := 2) (by simp [Hd.vals])
  have f3 := hc.frozen (j := 3) (by simp [Hd.vals])
  clear hc
  go_enter Try.func68, Try.ntmps68
  go_wp2_with fail
  go_returns
  exact ⟨rfl, rfl⟩
theorem heldTick_any {w : World} {g i : Nat} {h : Hd} {N : Int} (hc : CellsO w g (i * 4) h.vals) (hk : Hok N h) :
    Calls Try.prog 76 #[.pointer (some ⟨g, i * 4, none⟩)] w fun e w' => e = .returned (.bool (tickH h).1) ∧ Below w.heap.size w w ∧
      w' = (if (tickH h).1 then (((w.setCell ⟨g, i * 4 + 3, none⟩ (.int .i64 (h.left - 1))).setCell ⟨g, i * 4 + 2, none⟩ (.int .i64 (tickH h).2.delay)).setCell ⟨g, i * 4 + 3, none⟩ (.int .i64 (tickH h).2.left)) else w.setCell ⟨g, i * 4 + 3, none⟩ (.int .i64 (tickH h).2.left)) := by
  have c2 := hc.cell (j := 2) rfl
  have c3 := hc.cell (j := 3) rfl
  have f2 := hc.frozen (j := 2) (by simp [Hd.vals])
  have f3 := hc.frozen (j := 3) (by simp [Hd.vals])
  have h1 := hk.l0
  have h2 := hk.l1
  have h3 := hk.d0
  have h4 := hk.d1
  obtain ⟨lf, hlf⟩ : ∃ x, h.left = x := ⟨_, rfl⟩
  obtain ⟨dl, hdl⟩ : ∃ x, h.delay = x := ⟨_, rfl⟩
  have hwr : IntKind.i64.wrap (lf - 1) = lf - 1 := by rw [IntKind.wrap_i64]; omega
  have hwr2 : IntKind.i64.wrap (2 * dl) = 2 * dl := by rw [IntKind.wrap_i64]; omega
  by_cases hgt : 1 < lf
  · have e0 : tickH h = (false, ⟨h.seq, h.pay, h.delay, lf - 1⟩) := by unfold tickH; rw [hlf, if_pos hgt]
    have e1 : decide (lf - 1 > 0) = true := decide_eq_true (by omega)
    rw [e0]
    rw [hlf] at c3
    clear hc hk e0 hlf hdl
    go_enter Try.func76, Try.ntmps76
    go_wp2_with fail
    go_returns
    exact ⟨rfl, Below.refl _ _, rfl⟩
  · obtain ⟨m, hm⟩ : ∃ m, min (2 * dl) 16 = m := ⟨_, rfl⟩
    have e0 : tickH h = (true, ⟨h.seq, h.pay, m, m⟩) := by unfold tickH; rw [hlf, if_neg hgt, hdl, hm]
    have e1 : decide (lf - 1 > 0) = false := decide_eq_false (by omega)
    rw [e0, hlf]
    rw [hlf] at c3
    rw [hdl] at c2
    clear hc hk e0 hlf hdl
    by_cases hmm : 2 * dl ≤ 16
    · obtain rfl : m = 2 * dl := by omega
      clear hm
      go_enter Try.func76, Try.ntmps76
      go_wp2_with fail
      go_returns
      exact ⟨rfl, Below.refl _ _, rfl⟩
    · obtain rfl : m = 16 := by omega
      clear hm
      go_enter Try.func76, Try.ntmps76
      go_wp2_with fail
      go_returns
      exact ⟨rfl, Below.refl _ _, rfl⟩
end Go.Proofs.Ytjfejfhdohpfbaa.Ses
