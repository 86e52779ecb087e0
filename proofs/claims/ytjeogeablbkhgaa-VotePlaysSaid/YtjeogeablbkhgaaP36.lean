/-
  Layer 19: Waits, Over, Nodes, Ack, Items of a ballot.
  Conditions: none.
-/
import Derived.Test.YtjeogeablbkhgaaP35
namespace Go.Proofs.Ytjeogeablbkhgaa.Vot
set_option maxRecDepth 100000
open Go.RowKit Go.Deep Go.Proofs.Ytjeogeablbkhgaa.Mem Go.Proofs.Ytjeogeablbkhgaa.Item
theorem el_lists : Elem 76 49 (.slice none 0 0) 1 24 := ⟨Try.underlying76, by kernel_rfl, rfl, by decide, by decide⟩
def lv (x : Sd) : List Value := [.slice x.A x.its.length x.c]
theorem fit_lv (l : List Sd) : Fit 1 (l.map lv) := ⟨fun v hv => by obtain ⟨x, _, rfl⟩ := List.mem_map.1 hv; rfl, fun v hv u hu => by
  obtain ⟨x, _, rfl⟩ := List.mem_map.1 hv
  unfold lv at hu
  simp only [List.mem_cons, List.not_mem_nil, or_false] at hu
  subst hu
  rfl⟩
abbrev nv : Sd → List Value := fv fun x : Sd => x.node
def trip (x : Sd) : Option Addr × Nat × List It := (x.A, x.c, x.its)
section
variable {B T g c : Nat} {w w1 : World} {A : Option Addr} {t : Tid} {ab : Bool} {l : List Sd}
theorem own_lists {B : Nat} {w : World} {V : Option Addr} {n vc : Nat} {m : List Sd} (h : OwnG 49 1 lv B w (.slice V n vc) m) (hi : ∀ s ∈ m, Items w s.A s.its ∧ (s.A = none → s.c = 0)) : n = (m.map trip).length ∧ Lists w V (m.map trip) := by
  obtain ⟨e, hs⟩ := OwnG.sl fit_lv h
  rw [List.length_map]
  refine ⟨e, fun k hk => ?_⟩
  rw [List.length_map] at hk
  obtain ⟨b, off, e2, hr⟩ := hs k (by rw [List.length_map]; exact hk)
  rw [List.getElem_map] at hr
  have h0 := hr 0 _ rfl
  rw [Nat.mul_one, Nat.add_zero] at h0
  rw [List.getElem_map]
  exact ⟨b, off, e2, h0, hi _ (List.getElem_mem hk)⟩
theorem filter_more {P : Sd → Bool} {k : Nat} {s : Sd} (h : l.take (k + 1) = l.take k ++ [s]) : (l.take (k + 1)).filter P = (l.take k).filter P ++ (if P s then [s] else []) := by
  rw [h, List.filter_append, List.filter_cons, List.filter_nil]
theorem filter_len {P : Sd → Bool} (k : Nat) (h : l.length ≤ 40) : ((l.take k).filter P).length ≤ 40 := by
  have h1 := List.length_filter_le P (l.take k)
  rw [List.length_take] at h1
  omega
theorem nums_of {B : Nat} {w : World} {V : Option Addr} {n vc : Nat} {m : List Sd} (h : OwnG 3 1 nv B w (.slice V n vc) m) : n = (m.map (·.node)).length ∧ Nums w V (m.map (·.node)) := by
  obtain ⟨e, hs⟩ := OwnG.irow h
  exact ⟨by rw [List.length_map]; exact e, hs⟩
theorem filter_none {P : Sd → Bool} (h : ∀ x, P x = false) : l.filter P = [] := by
  rw [List.filter_eq_nil_iff]
  intro x _
  rw [h x]
  decide
/-- Waits, where it is open or committed. -/
theorem Waits_any (h : CAt B T w g A c t ab l) : Calls Try.prog 22 #[.pointer (some ⟨g, 0, none⟩)] w fun e w' => (∃ V n vc, e = .returned (.slice V n vc) ∧ n = (waitsL (stC ab l) l).length ∧ Nums w' V (waitsL (stC ab l) l)) ∧ Below w.heap.size w w' := by
  have h1 := State_any h
  have hsc := stC_cases ab l
  obtain ⟨s, hs⟩ : ∃ s, stC ab l = s := ⟨_, rfl⟩
  rw [hs] at h1 hsc ⊢
  have H1 := Lib.hid h1
  have hl := h.len
  obtain ⟨n, hn⟩ : ∃ n, l.length = n := ⟨_, rfl⟩
  have HN := Lib.hid hn
  have hnl : n ≤ 40 := by rw [← hn]; exact hl
  have HL := Lib.hid hl
  have H0 := Lib.hid h
  clear h h1 hs hn hl
  go_enter Try.func22, Try.ntmps22
  go_wp2_with fail
  refine H1.out.mono ?_
  rintro e w1 ⟨rfl, hb1⟩
  have HH := Lib.hid (H0.out.later hb1)
  have HB1 := Lib.hid hb1
  clear hb1 H1 H0
  rcases hsc with rfl | rfl | rfl
  · obtain ⟨PP, hPP⟩ : ∃ P, P = waitB 0 := ⟨_, rfl⟩
    have HPP := Lib.hid hPP
    have c3 := HH.out.box.cell (j := 3) rfl
    rw [HN.out] at c3
    clear hPP
    go_wp2_with fail
    clear c3
    go_loopw [4, 6, 16] (fun v _ i wr => ∃ (k : Nat) (V : Option Addr) (nn vc : Nat), k ≤ n ∧ i = .int .i64 (k : Int) ∧ v = .slice V nn vc ∧ Hid (OwnG 3 1 nv w1.heap.size wr (.slice V nn vc) ((l.take k).filter PP)) ∧ Hid (Below w1.heap.size w1 wr)) (fun _ _ i _ => n - (intOf i).toNat)
    case atStart => exact ⟨0, none, 0, 0, Nat.zero_le _, rfl, rfl, Lib.hid (by rw [List.take_zero]; exact OwnG.nil _ _ _ _ _), Lib.hid (Below.refl _ _)⟩
    case round =>
      obtain ⟨k, V, nn, vc, hk, rfl, rfl, HV, HB⟩ := hrel
      by_cases hlt : k < n
      · have HLEN : Hid (((l.take k).filter PP).length ≤ 40) := Lib.hid (filter_len k HL.out)
        have hkl : k < l.length := by rw [HN.out]; exact hlt
        obtain ⟨p, rfl, hel⟩ := (HH.out.later HB.out).elem hkl
        have HM := Lib.hid (List.getElem_mem hkl)
        obtain ⟨s, hs⟩ : ∃ s, l[k] = s := ⟨_, rfl⟩
        have HTM := Lib.hid (take_more hkl hs)
        rw [hs] at hel HM
        have x0 : wr.cell? ⟨p, k * 4, none⟩ = _ := hel.cell (j := 0) rfl
        have x1 := hel.cell (j := 1) rfl
        have x2 := hel.cell (j := 2) rfl
        have x3 := hel.cell (j := 3) rfl
        obtain ⟨hbb, hcb⟩ := copy_said wr s
        obtain ⟨m, hm⟩ : ∃ m, s.its.length = m := ⟨_, rfl⟩
        have HMM := Lib.hid hm
        unfold Sd.vals at hcb
        rw [hm] at x1 hbb hcb
        obtain ⟨wb, hwb⟩ : ∃ W, W = wr.alloc (.cells #[.int .i64 s.node, .slice s.A m s.c, .bool s.yes, .bool s.ack] 68) := ⟨_, rfl⟩
        rw [← hwb] at hbb hcb
        have y0 : wb.cell? ⟨wr.heap.size, 0, none⟩ = _ := hcb.cell (j := 0) rfl
        have y1 := hcb.cell (j := 1) rfl
        have y2 := hcb.cell (j := 2) rfl
        have y3 := hcb.cell (j := 3) rfl
        have HB2 := Lib.hid (HB.out.trans (hbb.mono HB.out.size))
        have HV2 := Lib.hid (HV.out.later hbb)
        clear hkl hel hs hbb hcb hm HB HV
        go_upto_region 8 with (fail)
        rw [← hwb]
        clear hwb x0 x1 x2 x3
        obtain ⟨sy, hsy⟩ : ∃ b, s.yes = b := ⟨_, rfl⟩
        rw [hsy] at y2
        have HSY := Lib.hid hsy
        clear hsy
        cases sy with
        | true =>
          have HWT : Hid (waitB 0 s = false) := Lib.hid (by unfold waitB; rw [HSY.out]; rfl)
          have HV5 := Lib.hid (show OwnG 3 1 nv w1.heap.size wb (.slice V nn vc) ((l.take (k + 1)).filter PP) by rw [HPP.out, filter_more HTM.out, HWT.out, if_neg (by decide), List.append_nil]; rw [← HPP.out]; exact HV2.out)
          clear HV2
          go_wp2_with fail
          go_roundw
          case rel => exact ⟨k + 1, V, nn, vc, by omega, by go_num, rfl, HV5, HB2⟩
          case measure => simp [intOf]; omega
        | false =>
          have HWT : Hid (waitB 0 s = true) := Lib.hid (by unfold waitB; rw [HSY.out]; rfl)
          obtain ⟨V', n', vc', w5, hrun, hrow, hbe⟩ := OwnG.more elI (fit_fv fun x : Sd => x.node) HV2.out s #[.int .i64 s.node] rfl HB2.out.size (by have := HLEN.out; omega)
          have HV5 := Lib.hid (show OwnG 3 1 nv w1.heap.size w5 (.slice V' n' vc') ((l.take (k + 1)).filter PP) by rw [HPP.out, filter_more HTM.out, HWT.out]; rw [HPP.out] at hrow; exact hrow)
          have HB5 := Lib.hid (HB2.out.trans hbe)
          have HRUN := Lib.hid hrun
          clear hrun hrow hbe HV2 HB2
          go_wp2_with (at_builtin
                       refine Lib.wpList_append_run (wb.alloc (.cells #[.int .i64 s.node] 3)) rfl (.tmp 36) (.tmp 40) 37 37 rfl (.slice V nn vc) (.slice (some ⟨wb.heap.size, 0, none⟩) 1 1) rfl rfl _ _ HRUN.out ?_)
          go_roundw
          case rel => exact ⟨k + 1, V', n', vc', by omega, by go_num, rfl, HV5, HB5⟩
          case measure => simp [intOf]; omega
      · obtain rfl : k = n := by omega
        have HF : Hid (OwnG 3 1 nv w1.heap.size wr (.slice V nn vc) (l.filter (waitB 0))) := Lib.hid (by have h1 := HV.out; rwa [List.take_of_length_le (Nat.le_of_eq HN.out), HPP.out] at h1)
        go_wp2_with fail
        go_returns
        obtain ⟨k1, k2⟩ := nums_of HF.out
        exact ⟨⟨_, _, _, rfl, k1, k2⟩, HB1.out.trans (HB.out.mono HB1.out.size)⟩
  · obtain ⟨PP, hPP⟩ : ∃ P, P = waitB 1 := ⟨_, rfl⟩
    have HPP := Lib.hid hPP
    have c3 := HH.out.box.cell (j := 3) rfl
    rw [HN.out] at c3
    clear hPP
    go_wp2_with fail
    clear c3
    go_loopw [4, 6, 16] (fun v _ i wr => ∃ (k : Nat) (V : Option Addr) (nn vc : Nat), k ≤ n ∧ i = .int .i64 (k : Int) ∧ v = .slice V nn vc ∧ Hid (OwnG 3 1 nv w1.heap.size wr (.slice V nn vc) ((l.take k).filter PP)) ∧ Hid (Below w1.heap.size w1 wr)) (fun _ _ i _ => n - (intOf i).toNat)
    case atStart => exact ⟨0, none, 0, 0, Nat.zero_le _, rfl, rfl, Lib.hid (by rw [List.take_zero]; exact OwnG.nil _ _ _ _ _), Lib.hid (Below.refl _ _)⟩
    case round =>
      obtain ⟨k, V, nn, vc, hk, rfl, rfl, HV, HB⟩ := hrel
      by_cases hlt : k < n
      · have HLEN : Hid (((l.take k).filter PP).length ≤ 40) := Lib.hid (filter_len k HL.out)
        have hkl : k < l.length := by rw [HN.out]; exact hlt
        obtain ⟨p, rfl, hel⟩ := (HH.out.later HB.out).elem hkl
        have HM := Lib.hid (List.getElem_mem hkl)
        obtain ⟨s, hs⟩ : ∃ s, l[k] = s := ⟨_, rfl⟩
        have HTM := Lib.hid (take_more hkl hs)
        rw [hs] at hel HM
        have x0 : wr.cell? ⟨p, k * 4, none⟩ = _ := hel.cell (j := 0) rfl
        have x1 := hel.cell (j := 1) rfl
        have x2 := hel.cell (j := 2) rfl
        have x3 := hel.cell (j := 3) rfl
        obtain ⟨hbb, hcb⟩ := copy_said wr s
        obtain ⟨m, hm⟩ : ∃ m, s.its.length = m := ⟨_, rfl⟩
        have HMM := Lib.hid hm
        unfold Sd.vals at hcb
        rw [hm] at x1 hbb hcb
        obtain ⟨wb, hwb⟩ : ∃ W, W = wr.alloc (.cells #[.int .i64 s.node, .slice s.A m s.c, .bool s.yes, .bool s.ack] 68) := ⟨_, rfl⟩
        rw [← hwb] at hbb hcb
        have y0 : wb.cell? ⟨wr.heap.size, 0, none⟩ = _ := hcb.cell (j := 0) rfl
        have y1 := hcb.cell (j := 1) rfl
        have y2 := hcb.cell (j := 2) rfl
        have y3 := hcb.cell (j := 3) rfl
        have HB2 := Lib.hid (HB.out.trans (hbb.mono HB.out.size))
        have HV2 := Lib.hid (HV.out.later hbb)
        clear hkl hel hs hbb hcb hm HB HV
        go_upto_region 8 with (fail)
        rw [← hwb]
        clear hwb x0 x1 x2 x3
        obtain ⟨sy, hsy⟩ : ∃ b, s.ack = b := ⟨_, rfl⟩
        rw [hsy] at y3
        have HSY := Lib.hid hsy
        clear hsy
        cases sy with
        | true =>
          have HWT : Hid (waitB 1 s = false) := Lib.hid (by unfold waitB; rw [HSY.out]; rfl)
          have HV5 := Lib.hid (show OwnG 3 1 nv w1.heap.size wb (.slice V nn vc) ((l.take (k + 1)).filter PP) by rw [HPP.out, filter_more HTM.out, HWT.out, if_neg (by decide), List.append_nil]; rw [← HPP.out]; exact HV2.out)
          clear HV2
          go_wp2_with fail
          go_roundw
          case rel => exact ⟨k + 1, V, nn, vc, by omega, by go_num, rfl, HV5, HB2⟩
          case measure => simp [intOf]; omega
        | false =>
          have HWT : Hid (waitB 1 s = true) := Lib.hid (by unfold waitB; rw [HSY.out]; rfl)
          obtain ⟨V', n', vc', w5, hrun, hrow, hbe⟩ := OwnG.more elI (fit_fv fun x : Sd => x.node) HV2.out s #[.int .i64 s.node] rfl HB2.out.size (by have := HLEN.out; omega)
          have HV5 := Lib.hid (show OwnG 3 1 nv w1.heap.size w5 (.slice V' n' vc') ((l.take (k + 1)).filter PP) by rw [HPP.out, filter_more HTM.out, HWT.out]; rw [HPP.out] at hrow; exact hrow)
          have HB5 := Lib.hid (HB2.out.trans hbe)
          have HRUN := Lib.hid hrun
          clear hrun hrow hbe HV2 HB2
          go_wp2_with (at_builtin
                       refine Lib.wpList_append_run (wb.alloc (.cells #[.int .i64 s.node] 3)) rfl (.tmp 36) (.tmp 40) 37 37 rfl (.slice V nn vc) (.slice (some ⟨wb.heap.size, 0, none⟩) 1 1) rfl rfl _ _ HRUN.out ?_)
          go_roundw
          case rel => exact ⟨k + 1, V', n', vc', by omega, by go_num, rfl, HV5, HB5⟩
          case measure => simp [intOf]; omega
      · obtain rfl : k = n := by omega
        have HF : Hid (OwnG 3 1 nv w1.heap.size wr (.slice V nn vc) (l.filter (waitB 1))) := Lib.hid (by have h1 := HV.out; rwa [List.take_of_length_le (Nat.le_of_eq HN.out), HPP.out] at h1)
        go_wp2_with fail
        go_returns
        obtain ⟨k1, k2⟩ := nums_of HF.out
        exact ⟨⟨_, _, _, rfl, k1, k2⟩, HB1.out.trans (HB.out.mono HB1.out.size)⟩
  · have HZ : Hid (waitsL 2 l = []) := Lib.hid (by unfold waitsL; rw [filter_none fun x => by unfold waitB; rfl]; rfl)
    go_wp2_with fail
    go_returns
    exact ⟨⟨none, 0, 0, rfl, by rw [HZ.out]; rfl, by rw [HZ.out]; exact fun k hk => absurd hk (by simp)⟩, HB1.out⟩
theorem Nodes_any (h : CAt B T w g A c t ab l) : Calls Try.prog 26 #[.pointer (some ⟨g, 0, none⟩)] w fun e w' => (∃ V n vc, e = .returned (.slice V n vc) ∧ OwnG 3 1 nv w.heap.size w' (.slice V n vc) l) ∧ Below w.heap.size w w' := by
  have hl := h.len
  have c3 := h.box.cell (j := 3) rfl
  obtain ⟨n, hn⟩ : ∃ n, l.length = n := ⟨_, rfl⟩
  rw [hn] at c3
  have HN := Lib.hid hn
  have hnl : n ≤ 40 := by rw [← hn]; exact hl
  have HL := Lib.hid hl
  have HH := Lib.hid h
  clear h hn hl
  go_enter Try.func26, Try.ntmps26
  go_wp2_with fail
  clear c3
  go_loopw [3, 5, 13] (fun v _ i wr => ∃ (k : Nat) (V : Option Addr) (nn vc : Nat), k ≤ n ∧ i = .int .i64 (k : Int) ∧ v = .slice V nn vc ∧ Hid (OwnG 3 1 nv w.heap.size wr (.slice V nn vc) (l.take k)) ∧ Hid (Below w.heap.size w wr)) (fun _ _ i _ => n - (intOf i).toNat)
  case atStart => exact ⟨0, none, 0, 0, Nat.zero_le _, rfl, rfl, Lib.hid (by rw [List.take_zero]; exact OwnG.nil _ _ _ _ _), Lib.hid (Below.refl _ _)⟩
  case round =>
    obtain ⟨k, V, nn, vc, hk, rfl, rfl, HV, HB⟩ := hrel
    by_cases hlt : k < n
    · have HLEN : Hid ((l.take k).length ≤ 40) := Lib.hid (by have := HL.out; rw [List.length_take]; omega)
      have hkl : k < l.length := by rw [HN.out]; exact hlt
      obtain ⟨p, rfl, hel⟩ := (HH.out.later HB.out).elem hkl
      have HM := Lib.hid (List.getElem_mem hkl)
      obtain ⟨s, hs⟩ : ∃ s, l[k] = s := ⟨_, rfl⟩
      have HTM := Lib.hid (take_more hkl hs)
      rw [hs] at hel HM
      have x0 : wr.cell? ⟨p, k * 4, none⟩ = _ := hel.cell (j := 0) rfl
      have x1 := hel.cell (j := 1) rfl
      have x2 := hel.cell (j := 2) rfl
      have x3 := hel.cell (j := 3) rfl
      obtain ⟨hbb, hcb⟩ := copy_said wr s
      obtain ⟨m, hm⟩ : ∃ m, s.its.length = m := ⟨_, rfl⟩
      have HMM := Lib.hid hm
      unfold Sd.vals at hcb
      rw [hm] at x1 hbb hcb
      obtain ⟨wb, hwb⟩ : ∃ W, W = wr.alloc (.cells #[.int .i64 s.node, .slice s.A m s.c, .bool s.yes, .bool s.ack] 68) := ⟨_, rfl⟩
      rw [← hwb] at hbb hcb
      have y0 : wb.cell? ⟨wr.heap.size, 0, none⟩ = _ := hcb.cell (j := 0) rfl
      have y1 := hcb.cell (j := 1) rfl
      have y2 := hcb.cell (j := 2) rfl
      have y3 := hcb.cell (j := 3) rfl
      have HB2 := Lib.hid (HB.out.trans (hbb.mono HB.out.size))
      have HV2 := Lib.hid (HV.out.later hbb)
      clear hkl hel hs hbb hcb hm HB HV
      go_upto_region 7 with (fail)
      rw [← hwb]
      clear hwb x0 x1 x2 x3
      obtain ⟨V', n', vc', w5, hrun, hrow, hbe⟩ := OwnG.more elI (fit_fv fun x : Sd => x.node) HV2.out s #[.int .i64 s.node] rfl HB2.out.size (by have := HLEN.out; omega)
      have HV5 := Lib.hid (show OwnG 3 1 nv w.heap.size w5 (.slice V' n' vc') (l.take (k + 1)) by rw [HTM.out]; exact hrow)
      have HB5 := Lib.hid (HB2.out.trans hbe)
      have HRUN := Lib.hid hrun
      clear hrun hrow hbe HV2 HB2
      go_wp2_with (at_builtin
                   refine Lib.wpList_append_run (wb.alloc (.cells #[.int .i64 s.node] 3)) rfl (.tmp 17) (.tmp 21) 37 37 rfl (.slice V nn vc) (.slice (some ⟨wb.heap.size, 0, none⟩) 1 1) rfl rfl _ _ HRUN.out ?_)
      go_roundw
      case rel => exact ⟨k + 1, V', n', vc', by omega, by go_num, rfl, HV5, HB5⟩
      case measure => simp [intOf]; omega
    · obtain rfl : k = n := by omega
      have HF : Hid (OwnG 3 1 nv w.heap.size wr (.slice V nn vc) l) := Lib.hid (by have h1 := HV.out; rwa [List.take_of_length_le (Nat.le_of_eq HN.out)] at h1)
      go_wp2_with fail
      go_returns
      exact ⟨⟨_, _, _, rfl, HF.out⟩, HB.out⟩
theorem Over_any (h : CAt B T w g A c t ab l) : Calls Try.prog 20 #[.pointer (some ⟨g, 0, none⟩)] w fun e w' => e = .returned (.bool (decide ((waitsL (stC ab l) l).length = 0))) ∧ Below w.heap.size w w' := by
  have H1 := Lib.hid (Waits_any h)
  obtain ⟨q, hq⟩ : ∃ q, (waitsL (stC ab l) l) = q := ⟨_, rfl⟩
  rw [hq] at H1 ⊢
  obtain ⟨m, hm⟩ : ∃ m, q.length = m := ⟨_, rfl⟩
  rw [hm] at H1 ⊢
  obtain ⟨d, hd⟩ : ∃ d, decide (m = 0) = d := ⟨_, rfl⟩
  have HD := Lib.hid hd
  rw [hd]
  clear h hq hm hd
  go_enter Try.func20, Try.ntmps20
  go_wp2_with fail
  refine H1.out.mono ?_
  rintro e w1 ⟨⟨V, n, vc, rfl, rfl, _⟩, hb⟩
  have HB := Lib.hid hb
  have e1 : ((n : Int) == 0) = d := by rw [← HD.out]; by_cases h : n = 0 <;> simp [h]
  clear hb H1
  go_wp2_with fail
  go_returns
  exact ⟨rfl, HB.out⟩
end
end Go.Proofs.Ytjeogeablbkhgaa.Vot
