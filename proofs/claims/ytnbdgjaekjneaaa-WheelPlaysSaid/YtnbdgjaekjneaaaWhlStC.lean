/-
  Layer 12, the code's wheel: Stop of several timers. Conditions: none.
-/
import Derived.Test.YtnbdgjaekjneaaaWhlCode
namespace Go.Proofs.Ytnbdgjaekjneaaa.Whl
set_option maxRecDepth 100000
open Go.RowKit Go.Deep Go.Proofs.Ytnbdgjaekjneaaa.Mem

/-- Timers are stopped: how many there were. -/
def stopN (R : Wr) (ks : List Ky) : Int × Wr := ks.foldl (fun p k => (p.1 + (if (stopR p.2 k).1 then 1 else 0), (stopR p.2 k).2)) (0, R)
theorem stopN_more (R : Wr) (ks : List Ky) (k : Ky) : stopN R (ks ++ [k]) = ((stopN R ks).1 + (if (stopR (stopN R ks).2 k).1 then 1 else 0), (stopR (stopN R ks).2 k).2) := by
  unfold stopN
  rw [List.foldl_append]
  rfl
theorem stopN_bound (R : Wr) (ks : List Ky) : 0 ≤ (stopN R ks).1 ∧ (stopN R ks).1 ≤ ks.length := by
  have : ∀ (ks : List Ky) (p : Int × Wr), 0 ≤ p.1 → 0 ≤ (ks.foldl (fun p k => (p.1 + (if (stopR p.2 k).1 then 1 else 0), (stopR p.2 k).2)) p).1 ∧ (ks.foldl (fun p k => (p.1 + (if (stopR p.2 k).1 then 1 else 0), (stopR p.2 k).2)) p).1 ≤ p.1 + ks.length := by
    intro ks
    induction ks with
    | nil => intro p h; simp [h]
    | cons k ks ih =>
      intro p h
      rw [List.foldl_cons]
      have h2 := ih (p.1 + (if (stopR p.2 k).1 then 1 else 0), (stopR p.2 k).2) (by dsimp only; split <;> omega)
      refine ⟨h2.1, Int.le_trans h2.2 ?_⟩
      rw [List.length_cons]
      dsimp only
      split <;> omega
  have h := this ks (0, R) (Int.le_refl _)
  exact ⟨h.1, by have h2 := h.2; rw [Int.zero_add] at h2; exact h2⟩
set_option maxHeartbeats 2000000 in
theorem Stop_any {B rb ac : Nat} {w : World} {R : Wr} {A : Option Addr} (h : WcAt B w rb R A ac) (L : Option Addr) (ks : List Ky) (cap : Nat) (hB : B ≤ w.heap.size) (hk : Sl w L 6 (ks.map Ky.vals)) (hd : ∀ b, blk L = some b → ¬ wfoot rb A b) (hl : ks.length ≤ 1000) :
    Calls Try.prog 13 #[.pointer (some ⟨rb, 0, none⟩), .slice L ks.length cap] w fun e w' => e = .returned (.int .i64 (stopN R ks).1) ∧ WcAt B w' rb (stopN R ks).2 A ac ∧ Only (wfoot rb A) w w' := by
  have HR := Lib.hid h
  have HK := Lib.hid hk
  have HD := Lib.hid hd
  have HBW := Lib.hid hB
  obtain ⟨n, hn⟩ : ∃ n, ks.length = n := ⟨_, rfl⟩
  have HN := Lib.hid hn
  obtain ⟨F, hF⟩ : ∃ F, stopN R ks = F := ⟨_, rfl⟩
  have HF := Lib.hid hF
  rw [hF]
  rw [hn] at hl ⊢
  clear h hk hd hB hn hF
  go_enter Try.func13, Try.ntmps13
  go_wp2_with fail
  go_loopw [5, 11] (fun x i wr => ∃ (k : Nat) (z : Int) (Q : Wr), k ≤ n ∧ 0 ≤ z ∧ z ≤ k ∧ i = .int .i64 (k : Int) ∧ x = .int .i64 z ∧ Hid (stopN R (ks.take k) = (z, Q)) ∧ Hid (WcAt B wr rb Q A ac) ∧ Hid (Only (wfoot rb A) w wr)) (fun _ i _ => n - (intOf i).toNat)
  case atStart => exact ⟨0, 0, R, Nat.zero_le _, Int.le_refl _, Int.le_refl _, rfl, rfl, Lib.hid rfl, HR, Lib.hid (Only.of_below (Below.refl _ _))⟩
  case round =>
    obtain ⟨k, z, Q, hkn, hz0, hzk, rfl, rfl, HS, HQ, HO⟩ := hrel
    by_cases hlt : k < n
    · have hkl : k < ks.length := by rw [HN.out]; exact hlt
      obtain ⟨p, hp⟩ : ∃ p, ks[k] = p := ⟨_, rfl⟩
      obtain ⟨g, off, rfl, hr⟩ := HK.out k (by rw [List.length_map]; exact hkl)
      rw [List.getElem_map, hp] at hr
      have hr := range_only hr HO.out (HD.out g rfl)
      have x0 := hr 0 _ rfl
      rw [Nat.add_zero] at x0
      have x1 := hr 1 _ rfl
      have x2 := hr 2 _ rfl
      have x3 := hr 3 _ rfl
      have x4 := hr 4 _ rfl
      have x5 := hr 5 _ rfl
      have HT : Hid (ks.take (k + 1) = ks.take k ++ [p]) := Lib.hid (by rw [List.take_succ_eq_append_getElem hkl, hp])
      obtain ⟨we, hwe⟩ : ∃ W, W = wr.alloc (.cells #[.int .i64 p.kind, .int .i64 p.cell, .int .i64 p.node, .int .i64 p.tn, .int .i64 p.te, .int .i64 p.ts] 34) := ⟨_, rfl⟩
      have hbe : Below wr.heap.size wr we := by rw [hwe]; exact below_alloc _ _
      have hce : Cells we wr.heap.size 34 p.vals := by rw [hwe]; exact cells_new _ _ _ _ rfl
      have y0 := hce.cell (j := 0) rfl
      have y1 := hce.cell (j := 1) rfl
      have y2 := hce.cell (j := 2) rfl
      have y3 := hce.cell (j := 3) rfl
      have y4 := hce.cell (j := 4) rfl
      have y5 := hce.cell (j := 5) rfl
      have hqe := HQ.out.later hbe
      have HC := Lib.hid (Place_any hqe p)
      unfold Ky.val at HC
      have HQE := Lib.hid hqe
      have HOE : Hid (Only (wfoot rb A) w we) := Lib.hid (HO.out.trans (S' := fun _ => False) (Only.of_below hbe) fun _ _ e => e.elim)
      have HST : Hid (stopN R (ks.take (k + 1)) = (z + (if (stopR Q p).1 then 1 else 0), (stopR Q p).2)) := Lib.hid (by rw [HT.out, stopN_more, HS.out])
      clear hkl hp hr hbe hce hqe HT
      rcases atL_spec' p Q.l 0 with ⟨hat, _⟩ | ⟨ii, hii, hat, _, _⟩
      · rw [hat] at HC
        have HSP : Hid (stopN R (ks.take (k + 1)) = (z, Q)) := Lib.hid (by
          rw [HST.out, stopR_none hat]
          simp)
        clear hat HST
        go_upto_region 5 with (fail)
        rw [← hwe]
        clear hwe x0 x1 x2 x3 x4 x5
        go_wp2_with fail
        refine HC.out.mono ?_
        rintro e w2 ⟨rfl, hb2⟩
        have HQ2 := Lib.hid (HQE.out.later hb2)
        have HO2 : Hid (Only (wfoot rb A) w w2) := Lib.hid (HOE.out.trans (S' := fun _ => False) (Only.of_below hb2) fun _ _ e => e.elim)
        clear hb2 y0 y1 y2 y3 y4 y5
        go_wp2_with fail
        go_roundw
        case rel => exact ⟨k + 1, z, Q, by omega, hz0, by omega, by go_num, rfl, HSP, HQ2, HO2⟩
        case measure => simp [intOf]; omega
      · rw [Nat.zero_add] at hat
        rw [hat] at HC
        have hii0 := hii
        obtain ⟨t, ht⟩ : ∃ t, Q.l[ii]? = some t := ⟨_, List.getElem?_eq_getElem hii⟩
        obtain ⟨g2, rfl, _⟩ := HQ.out.at ht
        obtain ⟨Q2, hQ2⟩ : ∃ X, X = ({ Q with l := Q.l.take ii ++ Q.l.drop (ii + 1) } : Wr) := ⟨_, rfl⟩
        have HQQ := Lib.hid hQ2
        have HSP : Hid (stopN R (ks.take (k + 1)) = (z + 1, Q2)) := Lib.hid (by
          rw [HST.out, hQ2, stopR_some hat]
          rfl)
        have hql := HQE.out.len
        have HLE : Hid ((Q.l.take ii ++ Q.l.drop (ii + 1)).length = Q.l.length - 1) := Lib.hid (by simp; omega)
        obtain ⟨m, hm⟩ : ∃ m, Q.l.length = m := ⟨_, rfl⟩
        have HM := Lib.hid hm
        rw [hm] at hii hql
        have HII := Lib.hid hii0
        clear hat HST hQ2 ht hm hii0
        go_upto_region 5 with (fail)
        rw [← hwe]
        clear hwe x0 x1 x2 x3 x4 x5
        go_wp2_with fail
        refine HC.out.mono ?_
        rintro e w2 ⟨rfl, hb2⟩
        have hq2 := HQE.out.later hb2
        have HQ2 := Lib.hid hq2
        have HO2 : Hid (Only (wfoot rb (some ⟨g2, 0, none⟩)) w w2) := Lib.hid (HOE.out.trans (S' := fun _ => False) (Only.of_below hb2) fun _ _ e => e.elim)
        have c1 := hq2.cel.cell (j := 1) rfl
        rw [HM.out] at c1
        have hD := Delete_any (vs := Q.l.map Tm.vals) (i := ii) (j := ii + 1) (by simpa using hq2.row) (fit_tms _) (by omega) (by rw [List.length_map]; exact HII.out) (by rw [List.length_map, HM.out]; omega)
        rw [List.length_map, HM.out, show ii + 1 - ii = 1 by omega, Int.natCast_succ] at hD
        have HD2 := Lib.hid hD
        clear hb2 hq2 hD y0 y1 y2 y3 y4 y5 HC
        have hi63 : IntKind.i64.wrap ((ii : Int) + 1) = (ii : Int) + 1 := by rw [IntKind.wrap_i64]; omega
        go_wp2_with fail
        refine HD2.out.mono ?_
        rintro e w3 ⟨rfl, hrow, ho⟩
        have hp := HQ2.out.put (w1 := w3) (l := Q.l.take ii ++ Q.l.drop (ii + 1)) (A2 := some ⟨g2, 0, none⟩) (c2 := ac) (by rw [HLE.out, HM.out, List.map_append, List.map_take, List.map_drop]; exact hrow) (ho.mono fun k _ e => by rw [e]; rfl) (fun k e => Or.inl e.symm) (by rw [HLE.out, HM.out]; omega)
        rw [HLE.out, HM.out] at hp
        obtain ⟨c1', f1, hn1, ho1⟩ := hp
        have HQ3 : Hid (WcAt B (w3.setCell ⟨rb, 1, none⟩ (.slice (some ⟨g2, 0, none⟩) (m - 1) ac)) rb Q2 (some ⟨g2, 0, none⟩) ac) := Lib.hid (by rw [HQQ.out]; exact hn1)
        have HO3 := Lib.hid (HO2.out.trans ho1 fun _ _ e => e)
        clear hrow ho hn1 ho1 c1
        go_wp2_with fail
        go_roundw
        case rel => exact ⟨k + 1, z + 1, Q2, by omega, by omega, by omega, by go_num, by go_num, HSP, HQ3, HO3⟩
        case measure => simp [intOf]; omega
    · obtain rfl : k = n := by omega
      have HE : Hid (F = (z, Q)) := Lib.hid (by
        have h1 := HS.out
        rw [List.take_of_length_le (by rw [HN.out]; exact Nat.le_refl _), HF.out] at h1
        exact h1)
      go_wp2_with fail
      go_returns
      rw [HE.out]
      exact ⟨rfl, HQ.out, HO.out⟩
end Go.Proofs.Ytnbdgjaekjneaaa.Whl
