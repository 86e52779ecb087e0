/-
  Layer 17: the library's Delete of entries. Conditions: none.
-/
import Derived.Test.YteedlenelfidcaaCacAt
import Derived.Test.YteedlenelfidcaaStepA
namespace Go.Proofs.Yteedlenelfidcaa.Cac
set_option maxRecDepth 100000
open Go.RowKit Go.Deep Go.Proofs.Yteedlenelfidcaa.Mem

/-- A row cut shorter. -/
theorem own_cut' {w : World} {B g n c k sz : Nat} {eT : TypeId} {xs : List Value} (h : w.ownsRow B eT sz (.slice (some ⟨g, 0, none⟩) n c) n xs) (hk : k ≤ n) : w.ownsRow B eT sz (.slice (some ⟨g, 0, none⟩) k c) k (xs.take (k * sz)) := by
  have hm : k * sz ≤ n * sz := Nat.mul_le_mul_right _ hk
  refine ⟨by rw [List.length_take, h.1]; omega, ?_⟩
  rcases h.2 with ⟨e, _⟩ | ⟨g', cap, cur, e, k2, k3, k4, k5, k6, k7⟩
  · cases e
  · simp only [Value.slice.injEq, Option.some.injEq, Addr.mk.injEq] at e
    obtain ⟨⟨rfl, _, _⟩, _, rfl⟩ := e
    exact Or.inr ⟨g, c, cur, rfl, k2, k3, by omega, k5, k6, by rw [← k7, List.take_take, Nat.min_eq_left hm]⟩
theorem over_cut' {sz i j : Nat} {vs : List (List Value)} {z : List Value} (h : ∀ v ∈ vs, v.length = sz) (hz : z.length = (j - i) * sz) (hi : i ≤ j) (hj : j ≤ vs.length) :
    (over (over vs.flatten (i * sz) (vs.drop j).flatten) ((vs.length - (j - i)) * sz) z).take ((vs.length - (j - i)) * sz) = (vs.take i ++ vs.drop j).flatten := by
  have hd := flatten_len (vs := vs.drop j) (sz := sz) fun v hv => h v (List.mem_of_mem_drop hv)
  have ht := flatten_len (vs := vs.take i) (sz := sz) fun v hv => h v (List.mem_of_mem_take hv)
  have hv := flatten_len h
  rw [List.length_drop] at hd
  rw [List.length_take, Nat.min_eq_left (by omega)] at ht
  have e1 : i * sz + (vs.length - j) * sz = (vs.length - (j - i)) * sz := by rw [← Nat.add_mul]; congr 1; omega
  have e2 : (vs.length - (j - i)) * sz + (j - i) * sz = vs.length * sz := by rw [← Nat.add_mul]; congr 1; omega
  have hl := over_len (l := vs.flatten) (m := (vs.drop j).flatten) (o := i * sz) (by omega)
  rw [over_eq (over vs.flatten (i * sz) (vs.drop j).flatten), List.append_assoc, List.take_append_of_le_length (by rw [List.length_take]; omega), List.take_take, Nat.min_self, over_eq, flat_take h i (by omega), List.take_append_of_le_length (by rw [List.length_append]; omega),
    List.take_of_length_le (by rw [List.length_append]; omega), List.flatten_append]
theorem el_ce : Elem 33 38 (.agg #[.int .i64 0, .int .i64 0, .int .i64 0, .int .i64 0]) 4 32 := ⟨Try.underlying33, by kernel_rfl, rfl, by decide, by decide⟩
def zeroEn : Value := .agg #[.int .i64 0, .int .i64 0, .int .i64 0, .int .i64 0]
def zeros (m : Nat) : List Value := (Builtin.zeroCells zeroEn.cells m).toList
theorem zeros_len (m : Nat) : (zeros m).length = m * 4 := by
  unfold zeros
  rw [Array.length_toList, size_zeroCells]
  rfl
theorem zeros_one (m : Nat) : ∀ v ∈ zeros m, v.oneCell' = true := by
  intro v hv
  unfold zeros Builtin.zeroCells at hv
  rw [Array.mem_toList_iff] at hv
  obtain ⟨i, _, rfl⟩ := Array.mem_map.1 hv
  have e : zeroEn.cells = #[.int .i64 0, .int .i64 0, .int .i64 0, .int .i64 0] := rfl
  rw [e]
  obtain ⟨k, hk⟩ : ∃ k, i % 4 = k := ⟨_, rfl⟩
  have hk7 : k < 4 := by omega
  show (#[Value.int .i64 0, .int .i64 0, .int .i64 0, .int .i64 0][i % 4]!).oneCell' = true
  rw [hk]
  match k, hk7 with
  | 0, _ | 1, _ | 2, _ | 3, _ => rfl
theorem run_clear_en (w : World) (ty : TypeId) (b o m c : Nat) (hm : 0 < m) (ht : w.there b o (m * 4)) : (Builtin.clear_ #[33] ty #[.slice (some ⟨b, o, none⟩) m c]).run Try.prog w = .ok (.tuple #[]) (w.setCells b o (zeros m)) := by
  have hv : ∀ w, (zeroValue 38).run Try.prog w = .ok zeroEn w := fun w => Try.zeroValue38 w
  have hz : (Builtin.zeroCells zeroEn.cells m).toList = zeros m := rfl
  have hst := run_storeCells_cells (P := Try.prog) b o (zeros m) 0 w (fun j hj => by rw [Nat.add_zero]; rw [zeros_len] at hj; exact (ht j hj).1) (fun j hj => by rw [Nat.add_zero]; rw [zeros_len] at hj; exact (ht j hj).2) (zeros_one m)
  rw [Nat.add_zero] at hst
  obtain ⟨q, rfl⟩ : ∃ q, m = q + 1 := ⟨m - 1, by omega⟩
  simp [Builtin.clear_, run_underlying Try.underlying33, hv, hz, hst]
set_option maxHeartbeats 1000000 in
theorem Delete_any {base g cap i j : Nat} {w : World} {vs : List (List Value)} (hr : w.ownsRow base 38 4 (.slice (some ⟨g, 0, none⟩) vs.length cap) vs.length vs.flatten) (hf : Fit 4 vs) (hi : i ≤ j) (hj : j ≤ vs.length) (hn : vs.length ≤ 1000) :
    Calls Try.prog 29 #[.slice (some ⟨g, 0, none⟩) vs.length cap, .int .i64 (i : Int), .int .i64 (j : Int)] w fun e w' => e = .returned (.slice (some ⟨g, 0, none⟩) (vs.length - (j - i)) cap) ∧
      w'.ownsRow base 38 4 (.slice (some ⟨g, 0, none⟩) (vs.length - (j - i)) cap) (vs.length - (j - i)) (vs.take i ++ vs.drop j).flatten ∧ Only (fun k => k = g) w w' := by
  have hcap : vs.length ≤ cap ∧ cap ≤ maxLen := by
    rcases hr.2 with ⟨e, _⟩ | ⟨g', cap', cur, e, k2, k3, k4, k5, k6, k7⟩
    · cases e
    · simp only [Value.slice.injEq] at e
      rw [e.2.2]
      exact ⟨k4, k5⟩
  by_cases hij : i = j
  · subst hij
    obtain ⟨hcap1, hcap2⟩ := hcap
    rw [Nat.sub_self, Nat.sub_zero, List.take_append_drop]
    have HR := Lib.hid hr
    obtain ⟨n, hvn⟩ : ∃ n, vs.length = n := ⟨_, rfl⟩
    rw [hvn] at hj hn hcap1 HR ⊢
    clear hr hf hvn
    have b1 : i ≤ cap := by omega
    have b2 : (i : Int) ≤ (n : Int) := by omega
    have b3 : (n : Int) ≤ (cap : Int) := by omega
    by_cases hni : n = i
    · subst hni
      go_enter Try.func29, Try.ntmps29
      go_wp2_with fail
      go_returns
      exact ⟨rfl, HR.out, Only.of_below (Below.refl _ _)⟩
    · go_enter Try.func29, Try.ntmps29
      go_wp2_with fail
      go_returns
      exact ⟨rfl, HR.out, Only.of_below (Below.refl _ _)⟩
  · have hlt : i < j := by omega
    obtain ⟨n, hvn⟩ : ∃ n, vs.length = n := ⟨_, rfl⟩
    have hd := flatten_len (vs := vs.drop j) (sz := 4) fun v hv => hf.len v (List.mem_of_mem_drop hv)
    rw [List.length_drop] at hd
    obtain ⟨news, hnews⟩ : ∃ l, (vs.drop j).flatten = l := ⟨_, rfl⟩
    have hr' : w.drew.ownsRow base 38 4 (.slice (some ⟨g, 0, none⟩) vs.length cap) vs.length vs.flatten := own_later hr (Below.refl _ _).drew
    obtain ⟨r1, o1, t1⟩ := row_put hr' (o := i * 4) (l := news) (by rw [← hnews, hd]; omega) (by rw [← hnews]; exact flatten_one (hf.sub fun v hv => List.mem_of_mem_drop hv))
    obtain ⟨m, hm⟩ : ∃ m, j - i = m := ⟨_, rfl⟩
    obtain ⟨r2, o2, t2⟩ := row_put r1 (o := (vs.length - m) * 4) (l := zeros m) (by rw [zeros_len]; omega) (zeros_one m)
    have r3 := own_cut' r2 (Nat.sub_le vs.length m)
    rw [← hnews, ← hm, over_cut' hf.len (by rw [zeros_len]) hi hj, hnews] at r3
    rw [hm] at r3 ⊢
    obtain ⟨w1, hw1⟩ : ∃ W, W = w.drew.setCells g (i * 4) news := ⟨_, rfl⟩
    obtain ⟨w2, hw2⟩ : ∃ W, W = w1.setCells g ((n - m) * 4) (zeros m) := ⟨_, rfl⟩
    rw [← hw1, hvn, ← hw2] at r3 o2
    rw [← hw1] at o1
    rw [hvn] at hcap hj hn hd ⊢
    have HR := Lib.hid r3
    have HO : Hid (Only (fun k => k = g) w w2) := Lib.hid (((Only.of_below (S := fun k => k = g) (Below.refl _ _).drew).trans o1 fun _ _ e => e).trans o2 fun _ _ e => e)
    have HA : Hid (∃ ad, (if cap = j then some ⟨g, 0, none⟩ else some ⟨g, j * 4, none⟩ : Option Addr) = some ad ∧ ∀ j u, news[j]? = some u → w.drew.cell? (ad.add j) = some u) := Lib.hid (by
      obtain ⟨hc, _, _⟩ := cells_of_own hr'
      by_cases he : cap = j
      · refine ⟨_, if_pos he, fun j u hu => ?_⟩
        have h0 : news.length = 0 := by rw [← hnews, hd]; omega
        rw [List.eq_nil_of_length_eq_zero h0] at hu
        cases hu
      · refine ⟨_, if_neg he, fun k u hu => ?_⟩
        rw [← hnews, ← flat_drop hf.len j (by omega), List.getElem?_drop] at hu
        rw [Addr.add_mid]
        exact hc.cell hu)
    obtain ⟨AD, hAD, hnw⟩ := HA.out
    have s1 := Lib.hid (show news.length = (n - j) * 4 by rw [← hnews, hd])
    have s2 := Lib.hid hnw
    have s3 : Hid (∀ u ∈ news, u.oneCell' = true) := Lib.hid (by rw [← hnews]; exact flatten_one (hf.sub fun v hv => List.mem_of_mem_drop hv))
    have s4 := Lib.hid t1
    rw [← hw1, hvn] at t2
    have s5 := Lib.hid t2
    have HW1 := Lib.hid hw1
    have HW2 := Lib.hid hw2
    have HAD := Lib.hid hAD
    have HM := Lib.hid hm
    obtain ⟨hcap1, hcap2⟩ := hcap
    have e1 : decide ((i : Int) = (j : Int)) = false := by simp; omega
    clear hr hf hvn hd hnews hr' r1 o1 t1 r2 o2 t2 r3 hw1 hw2 HA hAD hnw hm
    have b0 : i ≤ n := by omega
    have b1 : i ≤ cap := by omega
    have b3 : j ≤ cap := by omega
    have b2 : (i : Int) ≤ (j : Int) := by omega
    have b5 : (j : Int) ≤ (n : Int) := by omega
    have b6 : (n : Int) ≤ (cap : Int) := by omega
    have b7 : ¬ (n = i) := by omega
    go_enter Try.func29, Try.ntmps29
    go_upto_region 5 with (fail)
    obtain ⟨i0, hi0, hz0, hz1, hz2⟩ := info_parts el_ce.info
    have hI0 := Lib.hid (And.intro hi0 hz1)
    clear hi0 hz0 hz1 hz2
    have s6 : Hid (∀ j, j < news.length → (w.drew.cell? ⟨g, 0 + i * 4 + j, none⟩).isSome = true ∧ w.drew.frozen? ⟨g, 0 + i * 4 + j, none⟩ = false) := Lib.hid (fun j hj => by rw [Nat.zero_add]; exact s4.out j hj)
    have b4 : (0 : Int) ≤ (j : Int) := by omega
    have b8 : (i : Int) ≤ (n : Int) := by omega
    go_region_law (refine step_append_room rfl (.tmp 22) (.tmp 25) 33 rfl 38 i0 4 Try.underlying33 hI0.out.1 hI0.out.2 g 0 i cap (by simp [Act.eval, Act.put]) AD (n - j) (cap - j) news (by simpa [Act.eval, Act.put] using HAD.out) s1.out s2.out s3.out (by omega) s6.out ?_)
    all_goals
      have e9 : i + (n - j) = n - m := by have := HM.out; omega
      rw [← HW1.out, HAD.out, e9]
      have hm1 : 0 < m := by have := HM.out; omega
      have hmn : m ≤ n := by have := HM.out; omega
      clear b0 b1 b2 b3 b4 b5 b6 b7 b8 s6 hI0 HAD HW1 s4 s3 s2 s1 e9 hlt hij hi hj HM e1
      obtain ⟨q, rfl⟩ : ∃ q, n = q + m := ⟨n - m, by omega⟩
      rw [Nat.add_sub_cancel] at HR HW2 s5 ⊢
      have hcl := fun ty => run_clear_en w1 ty g (q * 4) m (cap - q) hm1 (by have := s5.out; rwa [zeros_len] at this)
      rw [← HW2.out] at hcl
      have b6 : ¬ cap = q := by omega
      have b7 : q + m - q = m := by omega
      have b8 : (q : Int) ≤ (q : Int) + (m : Int) := by omega
      have b9 : (q : Int) + (m : Int) ≤ (cap : Int) := by omega
      go_wp2_with fail
      rw [Nat.add_sub_cancel]
      go_returns
      exact ⟨rfl, HR.out, HO.out⟩
end Go.Proofs.Yteedlenelfidcaa.Cac
