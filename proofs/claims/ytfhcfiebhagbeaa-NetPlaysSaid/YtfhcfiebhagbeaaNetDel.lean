/-
  Layer 11: the library's Delete of one packet. Conditions: none.
-/
import Derived.Test.YtfhcfiebhagbeaaNetPut
namespace Go.Proofs.Ytfhcfiebhagbeaa.Net
set_option maxRecDepth 100000
open Go.RowKit Go.Deep Go.Proofs.Ytfhcfiebhagbeaa.Mem

/-- A row cut shorter. -/
theorem own_cut {w : World} {B g n c k sz : Nat} {eT : TypeId} {xs : List Value} (h : w.ownsRow B eT sz (.slice (some ⟨g, 0, none⟩) n c) n xs) (hk : k ≤ n) : w.ownsRow B eT sz (.slice (some ⟨g, 0, none⟩) k c) k (xs.take (k * sz)) := by
  have hm : k * sz ≤ n * sz := Nat.mul_le_mul_right _ hk
  refine ⟨by rw [List.length_take, h.1]; omega, ?_⟩
  rcases h.2 with ⟨e, _⟩ | ⟨g', cap, cur, e, k2, k3, k4, k5, k6, k7⟩
  · cases e
  · simp only [Value.slice.injEq, Option.some.injEq, Addr.mk.injEq] at e
    obtain ⟨⟨rfl, _, _⟩, _, rfl⟩ := e
    exact Or.inr ⟨g, c, cur, rfl, k2, k3, by omega, k5, k6, by rw [← k7, List.take_take, Nat.min_eq_left hm]⟩
theorem over_cut {sz i : Nat} {vs : List (List Value)} {z : List Value} (h : ∀ v ∈ vs, v.length = sz) (hz : z.length = sz) (hi : i < vs.length) :
    (over (over vs.flatten (i * sz) (vs.drop (i + 1)).flatten) ((vs.length - 1) * sz) z).take ((vs.length - 1) * sz) = (vs.take i ++ vs.drop (i + 1)).flatten := by
  have hd := flatten_len (vs := vs.drop (i + 1)) (sz := sz) fun v hv => h v (List.mem_of_mem_drop hv)
  have ht := flatten_len (vs := vs.take i) (sz := sz) fun v hv => h v (List.mem_of_mem_take hv)
  have hv := flatten_len h
  rw [List.length_drop] at hd
  rw [List.length_take, Nat.min_eq_left (Nat.le_of_lt hi)] at ht
  have e1 : i * sz + (vs.length - (i + 1)) * sz = (vs.length - 1) * sz := by rw [← Nat.add_mul]; congr 1; omega
  have e2 : (vs.length - 1) * sz + sz = vs.length * sz := by rw [← Nat.succ_mul]; congr 1; omega
  have hl := over_len (l := vs.flatten) (m := (vs.drop (i + 1)).flatten) (o := i * sz) (by omega)
  rw [over_eq (over vs.flatten (i * sz) (vs.drop (i + 1)).flatten), List.append_assoc, List.take_append_of_le_length (by rw [List.length_take]; omega), List.take_take, Nat.min_self, over_eq, flat_take h i (Nat.le_of_lt hi), List.take_append_of_le_length (by rw [List.length_append]; omega),
    List.take_of_length_le (by rw [List.length_append]; omega), List.flatten_append]
def zeros : List Value := [.int .i64 0, .int .i64 0, .string ⟨#[]⟩, .bool false]
theorem run_clear_pk (w : World) (ty : TypeId) (b o c : Nat) (ht : w.there b o 4) : (Builtin.clear_ #[31] ty #[.slice (some ⟨b, o, none⟩) 1 c]).run Try.prog w = .ok (.tuple #[]) (w.setCells b o zeros) := by
  have hv : ∀ w, (zeroValue 39).run Try.prog w = .ok (.agg #[.int .i64 0, .int .i64 0, .string ⟨#[]⟩, .bool false]) w := fun w => Try.zeroValue39 w
  have hz : (Builtin.zeroCells (Value.agg #[.int .i64 0, .int .i64 0, .string ⟨#[]⟩, .bool false]).cells 1).toList = zeros := by kernel_rfl
  have hst := run_storeCells_cells (P := Try.prog) b o zeros 0 w (fun j hj => by rw [Nat.add_zero]; exact (ht j hj).1) (fun j hj => by rw [Nat.add_zero]; exact (ht j hj).2) (fun v hv => by unfold zeros at hv; simp only [List.mem_cons, List.not_mem_nil, or_false] at hv; rcases hv with rfl | rfl | rfl | rfl <;> rfl)
  rw [Nat.add_zero] at hst
  simp [Builtin.clear_, run_underlying Try.underlying31, hv, hz, hst]
set_option maxHeartbeats 1000000 in
theorem Delete_any {base g cap i : Nat} {w : World} {vs : List (List Value)} (hr : w.ownsRow base 39 4 (.slice (some ⟨g, 0, none⟩) vs.length cap) vs.length vs.flatten) (hf : Fit 4 vs) (hi : i < vs.length) (hn : vs.length ≤ 1000) :
    Calls Try.prog 32 #[.slice (some ⟨g, 0, none⟩) vs.length cap, .int .i64 i, .int .i64 (i + 1)] w fun e w' => e = .returned (.slice (some ⟨g, 0, none⟩) (vs.length - 1) cap) ∧
      w'.ownsRow base 39 4 (.slice (some ⟨g, 0, none⟩) (vs.length - 1) cap) (vs.length - 1) (vs.take i ++ vs.drop (i + 1)).flatten ∧ Only (fun k => k = g) w w' := by
  obtain ⟨n, hvn⟩ : ∃ n, vs.length = n := ⟨_, rfl⟩
  have hd := flatten_len (vs := vs.drop (i + 1)) (sz := 4) fun v hv => hf.len v (List.mem_of_mem_drop hv)
  rw [List.length_drop] at hd
  have hcap : vs.length ≤ cap ∧ cap ≤ maxLen := by
    rcases hr.2 with ⟨e, _⟩ | ⟨g', cap', cur, e, k2, k3, k4, k5, k6, k7⟩
    · cases e
    · simp only [Value.slice.injEq] at e
      rw [e.2.2]
      exact ⟨k4, k5⟩
  obtain ⟨news, hnews⟩ : ∃ l, (vs.drop (i + 1)).flatten = l := ⟨_, rfl⟩
  have hr' : w.drew.ownsRow base 39 4 (.slice (some ⟨g, 0, none⟩) vs.length cap) vs.length vs.flatten := own_later hr (Below.refl _ _).drew
  obtain ⟨r1, o1, t1⟩ := row_put hr' (o := i * 4) (l := news) (by rw [← hnews, hd]; omega) (by rw [← hnews]; exact flatten_one (hf.sub fun v hv => List.mem_of_mem_drop hv))
  obtain ⟨r2, o2, t2⟩ := row_put r1 (o := (vs.length - 1) * 4) (l := zeros) (by show _ + 4 ≤ _; omega) (fun v hv => by unfold zeros at hv; simp only [List.mem_cons, List.not_mem_nil, or_false] at hv; rcases hv with rfl | rfl | rfl | rfl <;> rfl)
  have r3 := own_cut r2 (Nat.sub_le vs.length 1)
  rw [← hnews, over_cut hf.len rfl hi, hnews] at r3
  obtain ⟨w1, hw1⟩ : ∃ W, W = w.drew.setCells g (i * 4) news := ⟨_, rfl⟩
  obtain ⟨w2, hw2⟩ : ∃ W, W = w1.setCells g ((n - 1) * 4) zeros := ⟨_, rfl⟩
  rw [← hw1, hvn, ← hw2] at r3 o2
  rw [← hw1] at o1
  rw [hvn] at hcap hi hn hd ⊢
  have HR := Lib.hid r3
  have HO : Hid (Only (fun k => k = g) w w2) := Lib.hid (((Only.of_below (S := fun k => k = g) (Below.refl _ _).drew).trans o1 fun _ _ e => e).trans o2 fun _ _ e => e)
  have HA : Hid (∃ ad, (if cap = i + 1 then some ⟨g, 0, none⟩ else some ⟨g, (i + 1) * 4, none⟩ : Option Addr) = some ad ∧ ∀ j u, news[j]? = some u → w.drew.cell? (ad.add j) = some u) := Lib.hid (by
    obtain ⟨hc, _, _⟩ := cells_of_own hr'
    by_cases he : cap = i + 1
    · refine ⟨_, if_pos he, fun j u hu => ?_⟩
      have h0 : news.length = 0 := by rw [← hnews, hd]; omega
      rw [List.eq_nil_of_length_eq_zero h0] at hu
      cases hu
    · refine ⟨_, if_neg he, fun j u hu => ?_⟩
      rw [← hnews, ← flat_drop hf.len (i + 1) (by omega), List.getElem?_drop] at hu
      rw [Addr.add_mid]
      exact hc.cell hu)
  obtain ⟨AD, hAD, hnw⟩ := HA.out
  have s1 := Lib.hid (show news.length = (n - (i + 1)) * 4 by rw [← hnews, hd])
  have s2 := Lib.hid hnw
  have s3 : Hid (∀ u ∈ news, u.oneCell' = true) := Lib.hid (by rw [← hnews]; exact flatten_one (hf.sub fun v hv => List.mem_of_mem_drop hv))
  have s4 := Lib.hid t1
  rw [← hw1, hvn] at t2
  have s5 := Lib.hid t2
  have HW1 := Lib.hid hw1
  have HW2 := Lib.hid hw2
  have HAD := Lib.hid hAD
  obtain ⟨hcap1, hcap2⟩ := hcap
  have e1 : decide ((i : Int) = (i : Int) + 1) = false := by simp; omega
  clear hr hf hvn hd hnews hr' r1 o1 t1 r2 o2 t2 r3 hw1 hw2 HA hAD hnw
  go_enter Try.func32, Try.ntmps32
  go_upto_region 5 with (fail)
  obtain ⟨i0, hi0, hz0, hz1, hz2⟩ := info_parts el_pk.info
  have hI0 := Lib.hid (And.intro hi0 hz1)
  clear hi0 hz0 hz1 hz2
  have s6 : Hid (∀ j, j < news.length → (w.drew.cell? ⟨g, 0 + i * 4 + j, none⟩).isSome = true ∧ w.drew.frozen? ⟨g, 0 + i * 4 + j, none⟩ = false) := Lib.hid (fun j hj => by rw [Nat.zero_add]; exact s4.out j hj)
  have b1 : i ≤ cap := by omega
  have b2 : i + 1 ≤ n := by omega
  have b3 : i + 1 ≤ cap := by omega
  have b4 : (0 : Int) ≤ (i : Int) + 1 := by omega
  have b5 : (i : Int) + 1 ≤ (n : Int) := by omega
  go_region_law (refine step_append_room rfl (.tmp 22) (.tmp 25) 31 rfl 39 i0 4 Try.underlying31 hI0.out.1 hI0.out.2 g 0 i cap (by simp [Act.eval, Act.put]) AD (n - (i + 1)) (cap - (i + 1)) news (by simpa [Act.eval, Act.put] using HAD.out) s1.out s2.out s3.out (by omega) s6.out ?_)
  all_goals
    rw [← HW1.out, HAD.out, show i + (n - (i + 1)) = n - 1 by omega]
    clear b1 b2 b3 b4 b5 s6 hI0 HAD HW1 s4 s3 s2 s1
    obtain ⟨q, rfl⟩ : ∃ q, n = q + 1 := ⟨n - 1, by omega⟩
    rw [Nat.add_sub_cancel] at HR HW2 s5
    have hcl := fun ty => run_clear_pk w1 ty g (q * 4) (cap - q) s5.out
    rw [← HW2.out] at hcl
    have b6 : ¬ cap = q := by omega
    have b7 : q + 1 - q = 1 := by omega
    have b8 : (q : Int) ≤ (q : Int) + 1 := by omega
    have b9 : (q : Int) + 1 ≤ (cap : Int) := by omega
    go_wp2_with fail
    go_returns
    exact ⟨rfl, HR.out, HO.out⟩
end Go.Proofs.Ytfhcfiebhagbeaa.Net
