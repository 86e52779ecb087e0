/-
  Layer 11: Plain, Same. Conditions: none.
-/
import Derived.Test.YtfhcfiebhagbeaaNetRefP
namespace Go.Proofs.Ytfhcfiebhagbeaa.Net
set_option maxRecDepth 100000
open Go.RowKit Go.Deep Go.Proofs.Ytfhcfiebhagbeaa.Mem

/-- A row of the document's packets of the call's own. -/
def RkRow (B : Nat) (w : World) (v : Value) (l : List Pk) : Prop := w.ownsRow B 42 4 v l.length (l.map Pk.vals).flatten
theorem RkRow.later {B : Nat} {w w' : World} {v : Value} {l : List Pk} (h : RkRow B w v l) (hb : Below w.heap.size w w') : RkRow B w' v l := own_later h hb
theorem RkRow.nil (B : Nat) (w : World) : RkRow B w (.slice none 0 0) [] := ⟨rfl, Or.inl ⟨rfl, rfl⟩⟩
theorem RkRow.sl {B : Nat} {w : World} {V : Option Addr} {n vc : Nat} {l : List Pk} (h : RkRow B w (.slice V n vc) l) : n = l.length ∧ Pks w V l := by
  obtain ⟨A', c', e, h1, _⟩ := own_sl (vs := l.map Pk.vals) (by rw [List.length_map]; exact h) (fit_pks _).len
  simp only [Value.slice.injEq] at e
  obtain ⟨rfl, e2, rfl⟩ := e
  exact ⟨by simpa using e2, h1⟩
theorem RkRow.more {B : Nat} {w : World} {V : Option Addr} {n vc : Nat} {l : List Pk} (h : RkRow B w (.slice V n vc) l) (p : Pk) (hB : B ≤ w.heap.size) (hl : l.length ≤ 2000) :
    ∃ V' n' vc' w', (Builtin.append_ #[36, 36] 36 #[.slice V n vc, .slice (some ⟨w.heap.size, 0, none⟩) 1 1]).run Try.prog (w.alloc (.cells #[.int .i64 p.src, .int .i64 p.dst, .string p.bytes, .bool p.spoilt] 42)) = .ok (.slice V' n' vc') w' ∧ RkRow B w' (.slice V' n' vc') (l ++ [p]) ∧ Below B w w' := by
  obtain ⟨wd, hwd⟩ : ∃ W, W = w.alloc (.cells #[.int .i64 p.src, .int .i64 p.dst, .string p.bytes, .bool p.spoilt] 42) := ⟨_, rfl⟩
  have hbd : Below w.heap.size w wd := by rw [hwd]; exact below_alloc _ _
  have hnew : Cells wd w.heap.size 42 p.vals := by rw [hwd]; exact cells_new w 42 p.vals _ rfl
  have hd := h.later hbd
  have hsl : Sl wd (some ⟨w.heap.size, 0, none⟩) 4 [p.vals] := cells_sl (by simpa using hnew) fun v hv => by rw [List.mem_singleton.1 hv]; rfl
  obtain ⟨v', w5, hrun, hrow, hg, hnb⟩ := run_append_rows el_rpk wd 36 B (.slice V n vc) (l.map Pk.vals) [p.vals] (some ⟨w.heap.size, 0, none⟩) 1 (fit_pks _) (fit_pks [p])
    (by rw [List.length_map]; exact hd) hsl (fun e => by cases e) (by simp; omega) (by have := hbd.size; omega)
  obtain ⟨V', vc', rfl⟩ := row_slice hrow
  rw [show l.map Pk.vals ++ [p.vals] = (l ++ [p]).map Pk.vals by simp] at hrow hrun hnb
  rw [← hwd]
  refine ⟨V', _, vc', w5, hrun, ?_, (hbd.mono hB).trans ((Only.of_grown hg).below (by have := hbd.size; omega) fun k e => (hd.lt k e.symm).1)⟩
  unfold RkRow
  rw [List.length_map] at hrow ⊢
  exact hrow
set_option maxHeartbeats 1000000 in
theorem Plain_any (A : Option Addr) (l : List Pk) (cap : Nat) (w : World) (h : Pks w A l) (hl : l.length ≤ 1000) :
    Calls Try.prog 13 #[.slice A l.length cap] w fun e w' => ∃ v, e = .returned v ∧ RkRow w.heap.size w' v l ∧ Below w.heap.size w w' := by
  have HP := Lib.hid h
  obtain ⟨n, hn⟩ : ∃ n, l.length = n := ⟨_, rfl⟩
  have HN := Lib.hid hn
  rw [hn] at hl ⊢
  clear h hn
  go_enter Try.func13, Try.ntmps13
  go_wp2_with fail
  go_loopw [3, 8] (fun x i wr => ∃ (k : Nat) (V : Option Addr) (vn vc : Nat), k ≤ n ∧ i = .int .i64 (k : Int) ∧ x = .slice V vn vc ∧ Hid (RkRow w.heap.size wr (.slice V vn vc) (l.take k)) ∧ Hid (Below w.heap.size w wr)) (fun _ i _ => n - (intOf i).toNat)
  case atStart => exact ⟨0, none, 0, 0, Nat.zero_le _, rfl, rfl, Lib.hid (RkRow.nil _ _), Lib.hid (Below.refl _ _)⟩
  case round =>
    obtain ⟨k, V, vn, vc, hk, rfl, rfl, HR, HB⟩ := hrel
    by_cases hkn : k < n
    · have hkl : k < l.length := by rw [HN.out]; exact hkn
      obtain ⟨g, off, rfl, x0, x1, x2, x3⟩ := (HP.out.later HB.out).at hkl
      obtain ⟨p, hp⟩ : ∃ p, l[k] = p := ⟨_, rfl⟩
      rw [hp] at x0 x1 x2 x3
      have HT : Hid (l.take (k + 1) = l.take k ++ [p]) := Lib.hid (by rw [List.take_succ_eq_append_getElem hkl, hp])
      have hfl : (l.take k).length ≤ 1000 := by rw [List.length_take]; omega
      obtain ⟨we, hwe⟩ : ∃ W, W = wr.alloc (.cells #[.int .i64 p.src, .int .i64 p.dst, .string p.bytes, .bool p.spoilt] 39) := ⟨_, rfl⟩
      have hbe : Below wr.heap.size wr we := by rw [hwe]; exact below_alloc _ _
      have hce : Cells we wr.heap.size 39 p.vals := by rw [hwe]; exact cells_new _ _ _ _ rfl
      have y0 := hce.cell (j := 0) rfl
      have y1 := hce.cell (j := 1) rfl
      have y2 := hce.cell (j := 2) rfl
      have y3 := hce.cell (j := 3) rfl
      have HB2 := Lib.hid (HB.out.trans (hbe.mono HB.out.size))
      have HP2 := Lib.hid (HR.out.later hbe)
      obtain ⟨V', vn', vc', wu, hrun, hrow, hbu⟩ := HP2.out.more p HB2.out.size (by omega)
      have HRUN := Lib.hid hrun
      have HNX : Hid (RkRow w.heap.size wu (.slice V' vn' vc') (l.take (k + 1))) := Lib.hid (by rw [HT.out]; exact hrow)
      have HBU := Lib.hid (HB2.out.trans hbu)
      clear hkl hp hbe hce hrun hrow hbu hfl
      go_upto_region 5 with (fail)
      rw [← hwe]
      clear hwe x0 x1 x2 x3
      go_wp2_with (at_builtin
                   refine Lib.wpList_append_run (we.alloc (.cells #[.int .i64 p.src, .int .i64 p.dst, .string p.bytes, .bool p.spoilt] 42)) rfl (.tmp 12) (.tmp 14) 36 36 rfl (.slice V vn vc) (.slice (some ⟨we.heap.size, 0, none⟩) 1 1) rfl rfl _ _ HRUN.out ?_)
      go_roundw
      case rel => exact ⟨k + 1, V', vn', vc', by omega, by go_num, rfl, HNX, HBU⟩
      case measure => simp [intOf]; omega
    · obtain rfl : k = n := by omega
      have HF : Hid (RkRow w.heap.size wr (.slice V vn vc) l) := Lib.hid (by
        have h1 := HR.out
        rw [List.take_of_length_le (by rw [HN.out]; exact Nat.le_refl _)] at h1
        exact h1)
      go_wp2_with fail
      go_returns
      exact ⟨_, rfl, HF.out, HB.out⟩
set_option maxHeartbeats 1000000 in
theorem Same_any (A A2 : Option Addr) (l l2 : List Pk) (cap cap2 : Nat) (w : World) (h : Pks w A l) (h2 : Pks w A2 l2) (hl : l.length ≤ 1000) (hl2 : l2.length ≤ 1000) :
    Calls Try.prog 25 #[.slice A l.length cap, .slice A2 l2.length cap2] w fun e w' => e = .returned (.bool (decide (l = l2))) ∧ Below w.heap.size w w' := by
  have HP := Lib.hid h
  have HP2 := Lib.hid h2
  obtain ⟨n, hn⟩ : ∃ n, l.length = n := ⟨_, rfl⟩
  obtain ⟨n2, hn2⟩ : ∃ n2, l2.length = n2 := ⟨_, rfl⟩
  have HN := Lib.hid hn
  have HN2 := Lib.hid hn2
  obtain ⟨ans, ha⟩ : ∃ a, decide (l = l2) = a := ⟨_, rfl⟩
  have HA := Lib.hid ha
  rw [ha]
  rw [hn] at hl ⊢
  rw [hn2] at hl2 ⊢
  clear h h2 hn hn2 ha
  by_cases hnn : n = n2
  · subst hnn
    go_enter Try.func25, Try.ntmps25
    go_wp2_with fail
    go_loopw [5] (fun i wr => ∃ (k : Nat), k ≤ n ∧ i = .int .i64 (k : Int) ∧ Hid (l.take k = l2.take k) ∧ Hid (Below w.heap.size w wr)) (fun i _ => n - (intOf i).toNat)
    case atStart => exact ⟨0, Nat.zero_le _, rfl, Lib.hid rfl, Lib.hid (Below.refl _ _)⟩
    case round =>
      obtain ⟨k, hk, rfl, HT, HB⟩ := hrel
      by_cases hkn : k < n
      · have hkl : k < l.length := by rw [HN.out]; exact hkn
        have hkl2 : k < l2.length := by rw [HN2.out]; exact hkn
        have hdw : Below w.heap.size w wr.drew := HB.out.drew
        obtain ⟨g, off, rfl, x0, x1, x2, x3⟩ := (HP.out.later hdw).at hkl
        obtain ⟨g2, off2, rfl, y0, y1, y2, y3⟩ := (HP2.out.later hdw).at hkl2
        obtain ⟨p, hp⟩ : ∃ p, l[k] = p := ⟨_, rfl⟩
        obtain ⟨q, hq⟩ : ∃ q, l2[k] = q := ⟨_, rfl⟩
        rw [hp] at x0 x1 x2 x3
        rw [hq] at y0 y1 y2 y3
        have HBD := Lib.hid hdw
        obtain ⟨eq, he⟩ : ∃ x, decide (p = q) = x := ⟨_, rfl⟩
        cases eq with
        | true =>
          have HT2 : Hid (l.take (k + 1) = l2.take (k + 1)) := Lib.hid (by rw [List.take_succ_eq_append_getElem hkl, List.take_succ_eq_append_getElem hkl2, hp, hq, HT.out, of_decide_eq_true he])
          obtain rfl := of_decide_eq_true he
          clear hkl hkl2 hp hq he hdw HT
          go_upto_region 6 with (fail)
          go_region
          all_goals
            go_wp2_with fail
            go_roundw
            case rel => exact ⟨k + 1, by omega, by go_num, HT2, HBD⟩
            case measure => simp [intOf]; omega
        | false =>
          have HF : Hid (ans = false) := Lib.hid (by
            rw [← HA.out]
            refine decide_eq_false fun e => of_decide_eq_false he ?_
            subst e
            rw [← hp, ← hq])
          have hpq := of_decide_eq_false he
          clear hkl hkl2 hp hq he hdw HT
          by_cases a0 : p.src = q.src
          · by_cases a1 : p.dst = q.dst
            · by_cases a2 : p.bytes.toList = q.bytes.toList
              · by_cases a3 : p.spoilt = q.spoilt
                · refine absurd ?_ hpq
                  obtain ⟨p0, p1, p2, p3⟩ := p
                  obtain ⟨q0, q1, q2, q3⟩ := q
                  dsimp only at a0 a1 a2 a3
                  have a4 := bytes_list (a := p2) (b := q2)
                  rw [a2, beq_self_eq_true] at a4
                  rw [a0, a1, of_decide_eq_true a4.symm, a3]
                · clear hpq
                  go_upto_region 6 with (fail)
                  go_region
                  all_goals
                    go_wp2_with fail
                    go_returns
                    exact ⟨ret_bool HF.out, HBD.out⟩
              · clear hpq
                go_upto_region 6 with (fail)
                go_region
                all_goals
                  go_wp2_with fail
                  go_returns
                  exact ⟨ret_bool HF.out, HBD.out⟩
            · clear hpq
              go_upto_region 6 with (fail)
              go_region
              all_goals
                go_wp2_with fail
                go_returns
                exact ⟨ret_bool HF.out, HBD.out⟩
          · clear hpq
            go_upto_region 6 with (fail)
            go_region
            all_goals
              go_wp2_with fail
              go_returns
            exact ⟨ret_bool HF.out, HBD.out⟩
      · obtain rfl : k = n := by omega
        have HF : Hid (ans = true) := Lib.hid (by
          have h1 := HT.out
          rw [List.take_of_length_le (by rw [HN.out]; exact Nat.le_refl _), List.take_of_length_le (by rw [HN2.out]; exact Nat.le_refl _)] at h1
          rw [← HA.out]
          exact decide_eq_true h1)
        go_wp2_with fail
        go_returns
        exact ⟨ret_bool HF.out, HB.out⟩
  · have HF : Hid (ans = false) := Lib.hid (by
      rw [← HA.out]
      refine decide_eq_false fun e => hnn ?_
      rw [← HN.out, ← HN2.out, e])
    have e1 : decide ((n : Int) = (n2 : Int)) = false := by simp only [decide_eq_false_iff_not]; omega
    go_enter Try.func25, Try.ntmps25
    go_wp2_with fail
    go_returns
    exact ⟨ret_bool HF.out, Below.refl _ _⟩
end Go.Proofs.Ytfhcfiebhagbeaa.Net
