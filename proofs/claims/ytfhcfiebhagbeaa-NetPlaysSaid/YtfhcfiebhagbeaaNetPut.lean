/-
  Layer 11: put. Conditions: none.
-/
import Derived.Test.YtfhcfiebhagbeaaNetAsk
import Derived.Test.YtfhcfiebhagbeaaClone
import Derived.Test.YtfhcfiebhagbeaaStepA
namespace Go.Proofs.Ytfhcfiebhagbeaa.Net
set_option maxRecDepth 100000
open Go.RowKit Go.Deep Go.Proofs.Ytfhcfiebhagbeaa.Mem

/-- The list of packets turns alone. -/
theorem NetAt.newRow' {base b m c c' : Nat} {w w1 w' : World} {N : Nt} {A A' : Option Addr} {fl : List Pk} (h : NetAt base w b m N A c) (hr : w1.ownsRow base 39 4 (.slice A' fl.length c') fl.length (fl.map Pk.vals).flatten)
    (ho : Only (fun k => some k = blk A) w w1) (hn : ∀ k, some k = blk A' → some k = blk A ∨ w.heap.size ≤ k) (hl : fl.length ≤ 256) (hok : ∀ p ∈ fl, p.ok)
    (hc : Cells w' b 66 [.int .i64 N.nodes, .map (some m), .slice A' fl.length c']) (ho' : Only (fun k => k = b) w1 w') : NetAt base w' b m { N with fl := fl } A' c' ∧ Only (foot b m A) w w' := by
  have hb := h.cel.lt
  obtain ⟨n, hmap⟩ := h.map
  have hm := hmap.lt
  have nb : blk A' ≠ some b := fun e => by
    rcases hn b e.symm with e1 | e1
    · exact h.bA e1.symm
    · omega
  have nm : blk A' ≠ some m := fun e => by
    rcases hn m e.symm with e1 | e1
    · exact h.mA e1.symm
    · omega
  refine ⟨⟨hc, row_only hr ho' fun k hk e => ?_, ⟨n, (hmap.only ho fun e => h.mA e.symm).only ho' fun e => h.bm e.symm⟩, h.low, h.bm, nb, nm, h.nodes, hl, hok⟩, (ho.mono fun k _ e => Or.inr (Or.inr e)).trans ho' fun k _ e => Or.inl e⟩
  rw [own_blk] at hk
  subst e
  exact nb hk
theorem NetAt.newRow {base b m c c' : Nat} {w w1 w' : World} {N : Nt} {A A' : Option Addr} {fl : List Pk} (h : NetAt base w b m N A c) (hr : w1.ownsRow base 39 4 (.slice A' fl.length c') fl.length (fl.map Pk.vals).flatten)
    (ho : Only (fun k => some k = blk A) w w1) (hn : ∀ k, some k = blk A' → some k = blk A ∨ w.heap.size ≤ k) (hl : fl.length ≤ 256) (hok : ∀ p ∈ fl, p.ok)
    (hc : Cells w' b 66 [.int .i64 N.nodes, .map (some m), .slice A' fl.length c']) (ho' : Only (fun k => k = b) w1 w') : NStep base b m A w { N with fl := fl } w' :=
  ⟨A', c', (h.newRow' hr ho hn hl hok hc ho').1, (h.newRow' hr ho hn hl hok hc ho').2, hn⟩
set_option maxHeartbeats 1000000 in
theorem put_any {base b m c : Nat} {w : World} {N : Nt} {A : Option Addr} (h : NetAt base w b m N A c) (p : Pk) (hp : p.ok) (hbase : base ≤ w.heap.size) :
    Calls Try.prog 28 #[.pointer (some ⟨b, 0, none⟩), p.val] w fun e w' => e = .returned (.bool (decide (N.fl.length < 256))) ∧ NStep base b m A w (if N.fl.length < 256 then { N with fl := N.fl ++ [p] } else N) w' := by
  obtain ⟨wb, hwb⟩ : ∃ W, W = w.alloc (.cells #[.int .i64 p.src, .int .i64 p.dst, .string p.bytes, .bool p.spoilt] 39) := ⟨_, rfl⟩
  have hb : Below w.heap.size w wb := by rw [hwb]; exact below_alloc _ _
  have hc : Cells wb w.heap.size 39 p.vals := by rw [hwb]; exact cells_new _ _ _ _ rfl
  have HC := Lib.hid (Len_any (h.later hb))
  have HN := Lib.hid (h.later hb)
  have h0 := Lib.hid h
  have HB := Lib.hid hb
  have HP := Lib.hid hc
  have HOK := Lib.hid hp
  have HBASE := Lib.hid hbase
  unfold Pk.val
  by_cases hlt : N.fl.length < 256
  · have e1 : decide ((N.fl.length : Int) ≥ 256) = false := by simp; omega
    have e2 : decide (N.fl.length < 256) = true := by simpa using hlt
    have HLT := Lib.hid hlt
    rw [e2, if_pos hlt]
    clear h hb hc hp hbase hlt e2
    go_enter Try.func28, Try.ntmps28
    go_wp2_with fail
    rw [← hwb]
    refine HC.out.mono ?_
    rintro e w2 ⟨rfl, rfl⟩
    clear HC hwb
    have p2 := HP.out.cell (j := 2) rfl
    have f2 := HP.out.frozen (j := 2) (by unfold Pk.vals; simp)
    have HCL := Lib.hid (clone_any p.bytes w2 (by have := HOK.out.len; omega))
    go_wp2_with fail
    refine HCL.out.mono ?_
    rintro e w3 ⟨rfl, hb3⟩
    have HN3 := Lib.hid (HN.out.later hb3)
    have HP3 := Lib.hid (HP.out.later hb3)
    have HB3 := Lib.hid (HB.out.trans (hb3.mono HB.out.size))
    clear HCL hb3 p2 f2
    have p2 := HP3.out.cell (j := 2) rfl
    have f2 := HP3.out.frozen (j := 2) (by unfold Pk.vals; simp)
    obtain ⟨w4, hw4⟩ : ∃ W, W = w3.setCell ⟨w.heap.size, 2, none⟩ (.string p.bytes) := ⟨_, rfl⟩
    have h4 : Cells w4 w.heap.size 39 p.vals := by rw [hw4]; exact HP3.out.set_ 2 _
    have HB4 : Hid (Below w.heap.size w w4) := Lib.hid (by rw [hw4]; exact HB3.out.setCell (Nat.le_refl _) _)
    have HN4 : Hid (NetAt base w4 b m N A c) := Lib.hid (HN3.out.only (S := fun k => k = w.heap.size) (by rw [hw4]; exact Only.of_set w3 ⟨w.heap.size, 2, none⟩ (.string p.bytes)) fun k hk e => by
      have h1 : k = w.heap.size := e
      have h2 := (h0.out.lt hk).2
      omega)
    have HP4 := Lib.hid h4
    obtain ⟨wd, hwd⟩ : ∃ W, W = (w4.alloc (.cells #[.int .i64 p.src, .int .i64 p.dst, .string p.bytes, .bool p.spoilt] 39)).drew := ⟨_, rfl⟩
    have hbd : Below w4.heap.size w4 wd := by rw [hwd]; exact (below_alloc _ _).drew
    have hnew : Cells wd w4.heap.size 39 p.vals := by
      rw [hwd]
      exact (cells_new w4 39 p.vals _ rfl).later (Below.refl _ _).drew
    have hnd := HN4.out.later hbd
    have hsl : Sl wd (some ⟨w4.heap.size, 0, none⟩) 4 [p.vals] := cells_sl (by simpa using hnew) fun v hv => by rw [List.mem_singleton.1 hv]; rfl
    obtain ⟨v', w5, hrun, hrow, hg, hnb⟩ := run_append_rows el_pk wd 31 base (.slice A N.fl.length c) (N.fl.map Pk.vals) [p.vals] (some ⟨w4.heap.size, 0, none⟩) 1 (fit_pks _) ⟨fun v hv => by rw [List.mem_singleton.1 hv]; rfl, fun v hv => by rw [List.mem_singleton.1 hv]; exact pk_one p⟩
      (by simpa using hnd.row) hsl (fun e => by cases e) (by have := HLT.out; simp; omega) (by have := HB4.out.size; have := hbd.size; have := HBASE.out; omega)
    obtain ⟨A', c', rfl⟩ := row_slice hrow
    rw [show N.fl.map Pk.vals ++ [p.vals] = (N.fl ++ [p]).map Pk.vals by simp, List.length_map] at hrun hrow hnb
    rw [own_blk] at hg hnb
    rw [own_blk] at hnb
    have ho5 : Only (fun k => some k = blk A) wd w5 := Only.of_grown hg
    have hc5 := cells_only hnd.cel ho5 fun e => hnd.bA e.symm
    have HST : Hid (NStep base b m A w { N with fl := N.fl ++ [p] } (w5.setCell ⟨b, 2, none⟩ (.slice A' (N.fl ++ [p]).length c'))) := Lib.hid (NStep.before (HB4.out.trans (hbd.mono HB4.out.size)) (hnd.newRow (fl := N.fl ++ [p]) hrow ho5 (fun k e => by
      rw [e]
      rcases hnb with e1 | e1
      · exact Or.inl e1
      · right
        rw [e1] at e
        have := Option.some.inj e
        omega) (by have := HLT.out; simp; omega) (fun q hq => by
          rcases List.mem_append.1 hq with h1 | h1
          · exact hnd.pks q h1
          · rw [List.mem_singleton.1 h1]; exact HOK.out) (hc5.set_ 2 _) (Only.of_set w5 ⟨b, 2, none⟩ _)))
    have c2 := hnd.cel.cell (j := 2) rfl
    have d2 := hc5.cell (j := 2) rfl
    have g2 := hc5.frozen (j := 2) (by simp)
    have HRUN : Hid ((Builtin.append_ #[31, 31] 31 #[.slice A N.fl.length c, .slice (some ⟨w4.heap.size, 0, none⟩) 1 1]).run Try.prog wd = .ok (.slice A' (N.fl ++ [p]).length c') w5) := Lib.hid hrun
    obtain ⟨n', hn'⟩ : ∃ n', (N.fl ++ [p]).length = n' := ⟨_, rfl⟩
    rw [hn'] at HRUN
    rw [hn'] at HST
    have hdr : Below w4.heap.size w4 w4.drew := (Below.refl _ _).drew
    have q0 := (HP4.out.later hdr).cell (j := 0) rfl
    have q1 := (HP4.out.later hdr).cell (j := 1) rfl
    have q2 := (HP4.out.later hdr).cell (j := 2) rfl
    have q3 := (HP4.out.later hdr).cell (j := 3) rfl
    have c2' := (HN4.out.later hdr).cel.cell (j := 2) rfl
    clear hn' hrun hrow hg hnb ho5 hc5 hnd hnew hsl hbd h4 HP4 HN4 HB4 HP3 HN3 HB3 h0 HOK HBASE HLT HN HB HP
    rw [hwd] at HRUN c2
    go_upto_region 4 with (fail)
    rw [← hw4]
    clear hw4 hwd hdr
    go_region_law (refine step_append_run rfl _ _ 31 31 rfl _ _ (by simp [Act.eval]) (by simp [Act.eval]) HRUN.out ?_)
    all_goals
      go_wp2_with fail
      go_returns
      exact ⟨rfl, HST.out⟩
  · have e1 : decide ((N.fl.length : Int) ≥ 256) = true := by simp; omega
    have e2 : decide (N.fl.length < 256) = false := by simpa using hlt
    rw [e2, if_neg hlt]
    clear h hb hc hp hbase hlt e2
    go_enter Try.func28, Try.ntmps28
    go_wp2_with fail
    rw [← hwb]
    refine HC.out.mono ?_
    rintro e w2 ⟨rfl, rfl⟩
    go_wp2_with fail
    go_returns
    rw [← hwb]
    exact ⟨rfl, NStep.before HB.out (NStep.same HN.out (Below.refl _ _))⟩
end Go.Proofs.Ytfhcfiebhagbeaa.Net
