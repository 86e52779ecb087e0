/-
  The library's Grow and Concat at items.
  Conditions: none.
-/
import Derived.Test.YtjeogeablbkhgaaP24
import Derived.Lib.AppendZeros
import Derived.Maps.AppendAt
import Derived.Deep.MidRow
namespace Go.Proofs.Ytjeogeablbkhgaa.Item
set_option maxRecDepth 100000
open Go.RowKit Go.Proofs.Ytjeogeablbkhgaa.Mem Go.Proofs.Ytjeogeablbkhgaa.Wire
theorem own_slc {w : World} {base : Nat} {e : TypeId} {size : Nat} {v : Value} {n : Nat} {xs : List Value} (h : w.ownsRow base e size v n xs) : ∃ A k c, v = .slice A k c := by
  rcases h.2 with ⟨rfl, _⟩ | ⟨g, cap, cur, rfl, _⟩
  · exact ⟨_, _, _, rfl⟩
  · exact ⟨_, _, _, rfl⟩
/-- The slice whose first cell is at O holds these lists of items. -/
def Lists (w : World) (O : Option Addr) (ls : List (Option Addr × Nat × List It)) : Prop := ∀ k (h : k < ls.length), ∃ g off, O = some ⟨g, off, none⟩ ∧ w.cell? ⟨g, off + k, none⟩ = some (.slice ls[k].1 ls[k].2.2.length ls[k].2.1) ∧ Items w ls[k].1 ls[k].2.2 ∧ (ls[k].1 = none → ls[k].2.1 = 0)
theorem Lists.later {w w' : World} {O : Option Addr} {ls : List (Option Addr × Nat × List It)} (h : Lists w O ls) (hb : Below w.heap.size w w') : Lists w' O ls := fun k hk => by
  obtain ⟨g, off, h1, h2, h3⟩ := h k hk
  exact ⟨g, off, h1, (hb.cell (block_of_cell h2)).trans h2, h3.1.later hb, h3.2⟩
def allOf (ls : List (Option Addr × Nat × List It)) : List It := (ls.map (·.2.2)).flatten
theorem allOf_take {ls : List (Option Addr × Nat × List It)} {k : Nat} (h : k < ls.length) : allOf (ls.take (k + 1)) = allOf (ls.take k) ++ ls[k].2.2 := by
  unfold allOf
  rw [List.take_succ_eq_append_getElem h, List.map_append, List.flatten_append]
  simp
theorem allOf_len {ls : List (Option Addr × Nat × List It)} (k : Nat) : (allOf (ls.take k)).length ≤ (allOf ls).length := by
  have h : allOf ls = allOf (ls.take k) ++ allOf (ls.drop k) := by
    unfold allOf
    rw [← List.flatten_append, ← List.map_append, List.take_append_drop]
  rw [h, List.length_append]
  omega
theorem items_cell {w : World} {ad : Addr} {bs : List It} (h : Items w (some ad) bs) {j : Nat} {u : Value} (hu : (flat bs)[j]? = some u) : w.cell? (ad.add j) = some u := by
  have hj : j < bs.length * 5 := by
    have := (List.getElem?_eq_some_iff.1 hu).1
    rwa [flat_len] at this
  have hk : j / 5 < bs.length := by omega
  obtain ⟨b, off, e, h0, h1, h2, h3, h4⟩ := h (j / 5) hk
  obtain rfl := Option.some.inj e
  have hi : j % 5 < 5 := Nat.mod_lt _ (by decide)
  have hje : j = j / 5 * 5 + j % 5 := by omega
  rw [hje, flat_at bs _ hk _ hi] at hu
  rw [Addr.add_mid]
  obtain ⟨i, hii⟩ : ∃ i, j % 5 = i := ⟨_, rfl⟩
  rw [hii] at hu hi hje
  rw [hje]
  obtain ⟨q, hq⟩ : ∃ q, j / 5 = q := ⟨_, rfl⟩
  simp only [hq] at *
  rw [← Nat.add_assoc]
  rcases i with _ | _ | _ | _ | _ | i
  · rw [← hu]; exact h0
  · rw [← hu]; exact h1
  · rw [← hu]; exact h2
  · rw [← hu]; exact h3
  · rw [← hu]; exact h4
  · omega
theorem flat_one (l : List It) : ∀ u ∈ flat l, u.oneCell' = true := by
  intro u hu
  obtain ⟨x, _, hx⟩ := List.mem_flatMap.1 hu
  exact vals_one x u hx
/-- What append makes of a row of the call's own and of a slice of items. -/
theorem run_append_items (w : World) (ty : TypeId) (base : Nat) (v : Value) (us bs : List It) (A : Option Addr) (c : Nat) (hown : w.ownsRow base 60 5 v us.length (flat us)) (hr : Items w A bs) (hA : A = none → c = 0)
    (hn : us.length + bs.length ≤ 200000) (hbase : base ≤ w.heap.size) :
    ∃ v' w', (Builtin.append_ #[49, 49] ty #[v, .slice A bs.length c]).run Try.prog w = .ok v' w' ∧ w'.ownsRow base 60 5 v' (us ++ bs).length (flat (us ++ bs)) ∧ w.grownBy w' v.ownBlock ∧ (v'.ownBlock = v.ownBlock ∨ v'.ownBlock = some w.heap.size) := by
  obtain ⟨i0, hi, hz0, hz1, hz2⟩ := info_parts infoItem
  match A, hr, hA with
  | none, hr, hA =>
    have hb : bs = [] := by
      match bs, hr with
      | [], _ => rfl
      | b :: r, hr => obtain ⟨_, _, h, _⟩ := hr 0 (by simp); cases h
    subst hb
    obtain rfl := hA rfl
    refine ⟨v, w, ?_, by simpa using hown, World.grownBy.refl w _, Or.inl rfl⟩
    exact run_append_owned_none (P := Try.prog) (w := w) base 49 ty 60 i0 5 Try.underlying49 hi v us.length (flat us) hown
  | some ad, hr, _ =>
    obtain ⟨v', w', h1, h2, h3, _, h5⟩ := run_append_own_at (P := Try.prog) w base 49 ty 60 i0 _ 5 40 Try.underlying49 hi hz0 hz1 hz2 rfl (by omega) v us.length (flat us) hown
      ad bs.length c (flat bs) (flat_len bs) (fun j u hu => items_cell hr hu) (flat_one bs) (by unfold maxLen; omega) (by omega) hbase
    exact ⟨v', w', h1, by rw [List.length_append, flat_app]; exact h2, h3, h5⟩
set_option maxHeartbeats 1000000 in
theorem grow_any (n : Nat) (w : World) (hn : n ≤ 100000) :
    Calls Try.prog 49 #[.slice none 0 0, .int .i64 (n : Int)] w fun e w' => ∃ v, e = .returned v ∧ w'.ownsRow w.heap.size 60 5 v 0 [] ∧ Below w.heap.size w w' := by
  by_cases h0 : n = 0
  · subst h0
    go_enter Try.func49, Try.ntmps49
    go_wp2_with fail
    go_returns
    exact ⟨_, rfl, World.ownsRow_nil _ _ _ _, Below.refl _ _⟩
  · have h1 : 0 < n := by omega
    obtain ⟨i0, hi, hz0, hz1, hz2⟩ := info_parts infoItem
    have HA := Lib.hid (Lib.run_append_nil_zeros (P := Try.prog) w 49 3 49 60 i0 _ .i64 .i64 Try.underlying49 Try.underlying3 hi hz0 n h1 (by omega) (by omega) (by rw [hz2]; omega))
    obtain ⟨cap, hcap⟩ : ∃ c, grownCap w n 0 60 = c := ⟨_, rfl⟩
    have hc1 : n ≤ cap := by rw [← hcap]; exact grownCap_ge _ _ _ _
    have HC2 : Hid (cap ≤ maxLen) := Lib.hid (by rw [← hcap]; exact grownCap_le_maxLen _ _ _ _ (by unfold maxLen; omega))
    rw [hcap] at HA
    obtain ⟨cur, hcur⟩ : ∃ c, Builtin.zeroCells (Value.agg #[.int .i64 0, .int .i64 0, .int .i64 0, .bool false, .int .i64 0]).cells n ++ Builtin.zeroCells (Value.agg #[.int .i64 0, .int .i64 0, .int .i64 0, .bool false, .int .i64 0]).cells (cap - n) = c := ⟨_, rfl⟩
    rw [hcur] at HA
    have HS : Hid (cur.size = cap * 5) := Lib.hid (by
      rw [← hcur, Array.size_append, size_zeroCells, size_zeroCells]
      show n * 5 + (cap - n) * 5 = _
      omega)
    clear hcur hcap
    obtain ⟨w2, hw2⟩ : ∃ v, v = w.drew.alloc (.cells cur 60) := ⟨_, rfl⟩
    have HROW : Hid (w2.ownsRow w.heap.size 60 5 (.slice (some ⟨w.heap.size, 0, none⟩) 0 cap) 0 []) := Lib.hid (by
      rw [hw2]
      exact World.ownsRow_made (base := w.heap.size) (e := 60) (size := 5) w.drew cur cap (Nat.le_refl _) HC2.out HS.out)
    have HB : Hid (Below w.heap.size w w2) := Lib.hid (by
      rw [hw2]
      exact (Below.refl _ _).drew.alloc (Nat.le_refl _) _)
    rw [← hw2] at HA
    clear hw2
    go_enter Try.func49, Try.ntmps49
    go_wp2_with (at_builtin
                 refine Lib.wpList_append_run w rfl (.tmp 20) (.tmp 21) 49 3 rfl (.slice none 0 0) (.int .i64 (n : Int)) rfl rfl _ _ HA.out ?_)
    go_returns
    exact ⟨_, rfl, HROW.out, HB.out⟩
set_option maxHeartbeats 2000000 in
theorem concat_any (O : Option Addr) (ls : List (Option Addr × Nat × List It)) (cap : Nat) (w : World) (h : Lists w O ls) (hl : ls.length ≤ 100) (ht : (allOf ls).length ≤ 100000) :
    Calls Try.prog 41 #[.slice O ls.length cap] w fun e w' => ∃ v, e = .returned v ∧ w'.ownsRow w.heap.size 60 5 v (allOf ls).length (flat (allOf ls)) ∧ Below w.heap.size w w' := by
  have HL := Lib.hid h
  have HT := Lib.hid (fun k => Nat.le_trans (allOf_len (ls := ls) k) ht)
  obtain ⟨n, hn⟩ : ∃ n, ls.length = n := ⟨_, rfl⟩
  have HN := Lib.hid hn
  rw [hn] at hl ⊢
  clear h hn
  go_enter Try.func41, Try.ntmps41
  go_wp2_with fail
  go_loopw [3, 5, 11] (fun s _ i wr => ∃ k : Nat, k ≤ n ∧ i = .int .i64 (k : Int) ∧ s = .int .i64 ((allOf (ls.take k)).length : Int) ∧ w = wr) (fun _ _ i _ => n - (intOf i).toNat)
  case atStart => exact ⟨0, Nat.zero_le _, rfl, rfl, rfl⟩
  case round =>
    obtain ⟨k, hk, rfl, rfl, rfl⟩ := hrel
    have t0 := HT.out k
    by_cases hlt : k < n
    · have hlt' : k < ls.length := by have := HN.out; omega
      obtain ⟨g, off, hO, hc, hx⟩ := HL.out k hlt'
      clear hx
      subst hO
      have HE := Lib.hid (allOf_take hlt')
      have t1 := HT.out (k + 1)
      rw [HE.out, List.length_append] at t1
      have HE2 : Hid ((allOf (ls.take (k + 1))).length = (allOf (ls.take k)).length + ls[k].2.2.length) := Lib.hid (by rw [HE.out, List.length_append])
      obtain ⟨s, hs⟩ : ∃ s, (allOf (ls.take k)).length = s := ⟨_, rfl⟩
      obtain ⟨m, hm⟩ : ∃ m, ls[k].2.2.length = m := ⟨_, rfl⟩
      obtain ⟨A, hA⟩ : ∃ A, ls[k].1 = A := ⟨_, rfl⟩
      obtain ⟨c, hcc⟩ : ∃ c, ls[k].2.1 = c := ⟨_, rfl⟩
      rw [hs, hm] at HE2 t1
      rw [hs] at t0
      rw [hA, hm, hcc] at hc
      rw [hs]
      clear hs hm hA hcc HE hlt'
      go_wp2_with fail
      go_roundw
      case rel => exact ⟨k + 1, by omega, by go_num, by rw [HE2.out]; go_num, trivial⟩
      case measure => simp [intOf]; omega
    · obtain rfl : k = n := by omega
      have HF : Hid (allOf (ls.take k) = allOf ls) := Lib.hid (by rw [List.take_of_length_le (by have := HN.out; omega)])
      rw [HF.out] at t0 ⊢
      obtain ⟨tot, htot⟩ : ∃ t, (allOf ls).length = t := ⟨_, rfl⟩
      have HTOT := Lib.hid htot
      rw [htot] at t0 ⊢
      clear htot HF
      go_wp2_with fail
      refine (grow_any tot w t0).mono ?_
      rintro e w1 ⟨v, rfl, hrow, hb1⟩
      have HROW := Lib.hid hrow
      have HB1 := Lib.hid hb1
      clear hrow hb1
      go_wp2_with fail
      go_loopw [6, 8, 27] (fun v _ i wr => ∃ k2 : Nat, k2 ≤ k ∧ i = .int .i64 (k2 : Int) ∧ wr.ownsRow w.heap.size 60 5 v (allOf (ls.take k2)).length (flat (allOf (ls.take k2))) ∧ Below w.heap.size w wr) (fun _ _ i _ => k - (intOf i).toNat)
      case atStart => exact ⟨0, Nat.zero_le _, rfl, HROW.out, HB1.out⟩
      case round =>
        obtain ⟨k2, hk2, rfl, hrow, hbr⟩ := hrel
        have HRW := Lib.hid hrow
        have HBR := Lib.hid hbr
        by_cases hlt2 : k2 < k
        · have hlt' : k2 < ls.length := by have := HN.out; omega
          obtain ⟨g, off, hO, hc, hit⟩ := (HL.out.later hbr) k2 hlt'
          subst hO
          have HE := Lib.hid (allOf_take hlt')
          have t1 := HT.out (k2 + 1)
          rw [HE.out, List.length_append] at t1
          have HTT := Lib.hid t1
          have HIT := Lib.hid hit
          obtain ⟨L, hL⟩ : ∃ L, ls[k2].2.2 = L := ⟨_, rfl⟩
          obtain ⟨A, hA⟩ : ∃ A, ls[k2].1 = A := ⟨_, rfl⟩
          obtain ⟨c, hcc⟩ : ∃ c, ls[k2].2.1 = c := ⟨_, rfl⟩
          rw [hL] at HE HTT
          rw [hA, hL, hcc] at HIT
          rw [hA, hL, hcc] at hc
          obtain ⟨L0, hL0⟩ : ∃ L0, allOf (ls.take k2) = L0 := ⟨_, rfl⟩
          rw [hL0] at HE HTT HRW
          obtain ⟨Ax, nx, cx, hvx⟩ := own_slc HRW.out
          subst hvx
          obtain ⟨m, hm⟩ : ∃ m, L.length = m := ⟨_, rfl⟩
          have HM := Lib.hid hm
          rw [hm] at hc
          clear t1 hit hL hA hcc hrow hbr hlt' hL0 hm
          go_wp2_with (at_builtin
                       obtain ⟨v', w4, hrun, ho4, hg4, hat4⟩ := run_append_items _ 49 w.heap.size (.slice Ax nx cx) L0 L A c HRW.out HIT.out.1 HIT.out.2 (by have := HTT.out; omega) (by have := HBR.out.size; omega)
                       rw [HM.out] at hrun
                       refine Lib.wpList_append_run _ rfl (.tmp 31) (.tmp 32) 49 49 rfl (.slice Ax nx cx) (.slice A m c) rfl rfl _ _ hrun ?_
                       have HO4 := Lib.hid ho4
                       have HB4 := Lib.hid (Below.grown HBR.out hg4 HBR.out.size (fun k hk => (HRW.out.lt k hk).1))
                       clear ho4 hg4 hat4 hrun)
          go_roundw
          case rel => exact ⟨k2 + 1, by omega, by go_num, by rw [HE.out]; exact HO4.out, HB4.out⟩
          case measure => simp [intOf]; omega
        · obtain rfl : k2 = k := by omega
          have HF : Hid (allOf (ls.take k2) = allOf ls) := Lib.hid (by rw [List.take_of_length_le (by have := HN.out; omega)])
          clear hrow hbr
          go_wp2_with fail
          go_returns
          exact ⟨_, rfl, by have h := HRW.out; rw [HF.out] at h; rw [← HTOT.out]; exact h, HBR.out⟩
end Go.Proofs.Ytjeogeablbkhgaa.Item
