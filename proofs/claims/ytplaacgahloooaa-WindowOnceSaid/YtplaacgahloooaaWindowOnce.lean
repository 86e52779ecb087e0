/-
  Layer 13: no number is new twice, and together they are as many new ones as one by one. Conditions: none.
-/
import Derived.Test.YtplaacgahloooaaWinLaw
import Derived.Test.YtplaacgahloooaaMaps
import Derived.Lib.LaidTab
import Derived.Deep.DeepHandedRow
namespace Go.Proofs.Ytplaacgahloooaa.WindowOnce
set_option maxRecDepth 100000
open Go.ChangeShapes Go.WideShapes Go.ChangeAt Go.RowKit Go.Deep Go.ChangeMaps Go.MapKept Go.Proofs.Ytplaacgahloooaa.Mem Go.Proofs.Ytplaacgahloooaa.Win

theorem int_key : Go.Maps.Keyed Try.prog 3 := Go.Maps.int_keyed Try.underlying3
/-- The map of the numbers that were new: just these, each once. -/
def Set_ (w : World) (m : Nat) (L : List Int) : Prop := ∃ es clock, w.heap[m]? = some (.map es clock) ∧ es.size = L.length ∧ KM Try.prog 3 w m L.length fun k v => v = .bool true ∧ ∃ n ∈ L, k = .int .i64 n
section
variable {w w' : World} {m : Nat} {L : List Int}
theorem Set_.only {S : Nat → Prop} (h : Set_ w m L) (ho : Only S w w') (hn : ¬ S m) : Set_ w' m L := by
  obtain ⟨es, clock, h1, h2, h3⟩ := h
  exact ⟨es, clock, (ho.block m (lt_of_block h1) hn).trans h1, h2, h3.only ho hn⟩
theorem Set_.later (h : Set_ w m L) (hb : Below w.heap.size w w') : Set_ w' m L := h.only (Only.of_below (S := fun _ => False) hb) fun e => e
theorem Set_.lt (h : Set_ w m L) : m < w.heap.size := by
  obtain ⟨es, clock, h1, _⟩ := h
  exact lt_of_block h1
theorem set_made (w : World) (c : Nat) : Set_ (w.alloc (.map #[] c)) w.heap.size [] :=
  ⟨#[], c, heap_alloc_new w _, rfl, (km_made _ _ w c).congr (fun k v => ⟨fun e => e.elim, fun ⟨_, n, hn, _⟩ => by cases hn⟩) (Nat.le_refl _)⟩
theorem wf_n {n : Int} (h1 : 1 ≤ n) (h2 : n ≤ 1099511627776) : keyOf Try.prog 3 (.int .i64 n) = some (.int .i64 n) := by
  refine Go.Maps.keyOf_int_mk Try.underlying3 ?_
  have e1 : IntKind.i64.min = -9223372036854775808 := rfl
  have e2 : IntKind.i64.max = 9223372036854775807 := rfl
  simp only [Lit.wf, Bool.and_eq_true, decide_eq_true_eq, e1, e2]
  omega
theorem Set_.look (h : Set_ w m L) {n : Int} (h1 : 1 ≤ n) (h2 : n ≤ 1099511627776) (hn : n ∉ L) : (Instr.lookup 34 (.map (some m)) (.int .i64 n) false).run Try.prog w = .ok (.bool false) w := by
  obtain ⟨es, clock, g1, g2, g3⟩ := h
  rcases g3.look int_key Try.underlying34 (z := .bool false) (Try.zeroValue4 w) (wf_n h1 h2) false with ⟨v, ⟨_, q, hq, e⟩, _⟩ | ⟨_, e⟩
  · simp only [Value.int.injEq, true_and] at e
    exact absurd (e ▸ hq) hn
  · exact e
theorem Set_.store (h : Set_ w m L) {n : Int} (h1 : 1 ≤ n) (h2 : n ≤ 1099511627776) (hn : n ∉ L) :
    ∃ w', (Instr.mapUpdate 34 (.map (some m)) (.int .i64 n) (.bool true)).run Try.prog w = .ok () w' ∧ Set_ w' m (L ++ [n]) ∧ Only (fun k => k = m) w w' := by
  obtain ⟨es, clock, g1, g2, g3⟩ := h
  obtain ⟨w', e1, e2, e3⟩ := g3.store int_key Try.underlying34 (val := .bool true) (wf_n h1 h2)
  obtain ⟨es0, clock0, k1, k2, k3, k4, k5⟩ := g3
  obtain ⟨rfl, rfl⟩ : es = es0 ∧ clock = clock0 := by
    rw [g1] at k1
    simpa using k1
  have hno : ∀ x ∈ es.toList, x.key ≠ .int .i64 n := fun x hx ek => by
    obtain ⟨_, q, hq, e⟩ := (k5 x.key x.val).1 ⟨x, hx, rfl, rfl⟩
    rw [ek] at e
    simp only [Value.int.injEq, true_and] at e
    exact hn (e ▸ hq)
  rcases int_key.find w (wf_n h1 h2) es.toList k4 with ⟨q1, q2⟩ | ⟨j, e0, q1, q2, q3⟩
  · have hst : (Instr.mapUpdate 34 (.map (some m)) (.int .i64 n) (.bool true)).run Try.prog w = .ok () (setBlock w m (.map (es.push ⟨.int .i64 n, .bool true, clock⟩) (clock + 1))) := by
      simp [Instr.mapUpdate, run_underlying Try.underlying34, MapKept.run_getObj_map g1, int_key.check w false (wf_n h1 h2), q1, MapKept.run_setObj_map _ g1, Result.andThen, setBlock]
    have hw' : w' = setBlock w m (.map (es.push ⟨.int .i64 n, .bool true, clock⟩) (clock + 1)) := by
      rw [e1] at hst
      exact ((Result.ok.injEq _ _ _ _).mp hst).2
    refine ⟨w', e1, ⟨_, _, by rw [hw']; exact heap_setBlock_same g1 _, by simp [g2], e2.congr (fun k v => ?_) (by simp)⟩, e3⟩
    constructor
    · rintro (⟨rfl, rfl⟩ | ⟨_, e, q, hq, e2⟩)
      · exact ⟨rfl, n, by simp, rfl⟩
      · exact ⟨e, q, by simp [hq], e2⟩
    · rintro ⟨rfl, q, hq, rfl⟩
      by_cases e : q = n
      · exact Or.inl ⟨by rw [e], rfl⟩
      · refine Or.inr ⟨by simpa using e, rfl, q, ?_, rfl⟩
        simpa [e] using hq
  · exact absurd q3 (hno e0 (List.mem_of_getElem? q2))
theorem Set_.len (h : Set_ w m L) : (Builtin.len_ #[34] 3 #[.map (some m)]).run Try.prog w = .ok (.int .i64 (L.length : Int)) w := by
  obtain ⟨es, clock, g1, g2, _⟩ := h
  rw [← g2]
  simp [Builtin.len_, run_underlying Try.underlying34, MapKept.run_getObj_map g1, Result.andThen, goInt]
end
set_option maxHeartbeats 1000000 in
theorem walk (A : Option Addr) (ks : List Int) (cap : Nat) (w : World) (h : Ints w A ks) (hl : ks.length ≤ maxLen) :
    Calls Try.prog 4 #[.slice A ks.length cap] w fun e w' => e = .returned (.bool true) ∧ Below w.heap.size w w' := by
  have HC := Lib.hid (awake_any w)
  obtain ⟨n, hn⟩ : ∃ n, ks.length = n := ⟨_, rfl⟩
  have HLN := Lib.hid hn
  have HH := Lib.hid h
  rw [hn] at hl ⊢
  clear h hn
  by_cases hgt : 200 < n
  · have e1 : decide ((n : Int) > 200) = true := by simp; omega
    go_enter Try.func4, Try.ntmps4
    go_wp2_with fail
    refine HC.out.mono ?_
    rintro e w1 ⟨rfl, hb1⟩
    go_wp2_with fail
    go_returns
    exact ⟨rfl, hb1⟩
  · have e1 : decide ((n : Int) > 200) = false := by simp; omega
    go_enter Try.func4, Try.ntmps4
    go_wp2_with fail
    refine HC.out.mono ?_
    rintro e w1 ⟨rfl, hb1⟩
    have HH1 := Lib.hid (HH.out.later hb1)
    have HAlt : Hid (∀ g off, A = some ⟨g, off, none⟩ → ks ≠ [] → g < w1.heap.size) := Lib.hid (fun g off e hne => by
      have h0 : 0 < ks.length := List.length_pos_iff.2 hne
      obtain ⟨b, o, e2, hc⟩ := HH1.out 0 h0
      rw [e] at e2
      simp only [Option.some.injEq, Addr.mk.injEq] at e2
      rw [e2.1]
      exact block_of_cell hc)
    obtain ⟨wa, hwa⟩ : ∃ W, W = w1.alloc (.cells #[.int .i64 0, .int .u64 0] 26) := ⟨_, rfl⟩
    have hba : Below w1.heap.size w1 wa := by rw [hwa]; exact below_alloc _ _
    have ha : WinAt wa w1.heap.size [] := by rw [hwa]; exact WinAt.new w1
    have hsa : wa.heap.size = w1.heap.size + 1 := by rw [hwa]; exact World.size_alloc _ _
    obtain ⟨wb, hwb⟩ : ∃ W, W = wa.alloc (.cells #[.int .i64 0, .int .u64 0] 26) := ⟨_, rfl⟩
    have hbb : Below wa.heap.size wa wb := by rw [hwb]; exact below_alloc _ _
    have hb : WinAt wb (w1.heap.size + 1) [] := by rw [hwb, ← hsa]; exact WinAt.new wa
    have hsb : wb.heap.size = w1.heap.size + 2 := by rw [hwb, World.size_alloc, hsa]
    obtain ⟨wm, hwm⟩ : ∃ W, W = wb.alloc (.map #[] 0) := ⟨_, rfl⟩
    have hbm : Below wb.heap.size wb wm := by rw [hwm]; exact below_alloc _ _
    have hm : Set_ wm (w1.heap.size + 2) [] := by rw [hwm, ← hsb]; exact set_made wb 0
    have HW0 := Lib.hid ((ha.later hbb).later hbm)
    have HV0 := Lib.hid (hb.later hbm)
    have HM0 := Lib.hid hm
    have HB0 := Lib.hid (hba.trans ((hbb.mono hba.size).trans (hbm.mono (by omega))))
    obtain ⟨B, hB⟩ : ∃ B, w1.heap.size = B := ⟨_, rfl⟩
    have HBq := Lib.hid hB
    have HB1 := Lib.hid hb1
    have hmm := @run_makeMap Try.prog
    rw [hB] at HW0 HV0 HM0 hsa hsb
    clear hb1 hba ha hbb hb hbm hm
    go_wp2_with fail
    rw [← hwa, ← hwb, ← hwm]
    obtain ⟨mc, hmc⟩ : ∃ mc, B + 1 + 1 = mc := ⟨_, rfl⟩
    rw [hmc] at HM0 ⊢
    obtain ⟨vb, hvb⟩ : ∃ vb, B + 1 = vb := ⟨_, rfl⟩
    rw [hvb] at HV0 ⊢
    have HNE : Hid (vb = B + 1 ∧ mc = B + 2) := Lib.hid ⟨hvb.symm, by omega⟩
    have HHM : Hid (∀ wi, Only (fun k => k = B ∨ k = vb ∨ k = mc) wm wi → Ints wi A ks) := Lib.hid (fun wi ho => by
      have h1 : Ints wm A ks := HH1.out.later HB0.out
      intro i hi
      obtain ⟨b, off, e, hc⟩ := h1 i hi
      refine ⟨b, off, e, cell_only hc ho fun e3 => ?_⟩
      have h2 := HAlt.out b off e (List.ne_nil_of_length_pos (by omega))
      have h3 := HNE.out
      have h4 := HBq.out
      have h5 : b = B ∨ b = vb ∨ b = mc := e3
      omega)
    have HAb : Hid (∀ q, (q = B ∨ q = vb) → ∀ g off, A = some ⟨g, off, none⟩ → ks ≠ [] → g ≠ q) := Lib.hid (fun q hq g off e hne => by
      have h2 := HAlt.out g off e hne
      have h3 := HNE.out
      have h4 := HBq.out
      omega)
    clear hwa hwb hwm hsa hsb hB hmm hmc hvb
    go_loopw [17] (fun i wr => ∃ (k : Nat), k ≤ n ∧ i = .int .i64 (k : Int) ∧ Hid (WinAt wr B (seeL [] (ks.take k)).2) ∧ Hid (WinAt wr vb []) ∧ Hid (Set_ wr mc (seeL [] (ks.take k)).2) ∧ Hid (Only (fun k => k = B ∨ k = vb ∨ k = mc) wm wr)) (fun i _ => n - (intOf i).toNat)
    case atStart => exact ⟨0, Nat.zero_le _, rfl, HW0, HV0, HM0, Lib.hid (Only.refl _ _)⟩
    case round =>
      clear HW0 HV0 HM0
      obtain ⟨k, hkn, rfl, HW, HV, HM, HO⟩ := hrel
      by_cases hlt : k < n
      · have hkl : k < ks.length := by rw [HLN.out]; exact hlt
        obtain ⟨g, off, rfl, x0⟩ := (HHM.out wr HO.out) k hkl
        obtain ⟨p, hp⟩ : ∃ p, ks[k] = p := ⟨_, rfl⟩
        rw [hp] at x0
        have htk : ks.take (k + 1) = ks.take k ++ [p] := by rw [List.take_add_one, List.getElem?_eq_getElem hkl, hp]; rfl
        have hsp := seeL_snoc [] (ks.take k) p
        rw [← htk] at hsp
        have hok := (seeL_spec [] Wok.nil _ (ks.take k) rfl).1
        obtain ⟨L, hL⟩ : ∃ L, (seeL [] (ks.take k)).2 = L := ⟨_, rfl⟩
        rw [hL] at HW HM hsp hok
        have HLQ := Lib.hid hL
        obtain ⟨we, hwe⟩ : ∃ W, W = wr.alloc (.cells #[.int .i64 p] 3) := ⟨_, rfl⟩
        have HS := Lib.hid (See_one HW.out hok p hwe)
        rw [seeL_one] at HS
        obtain ⟨sb, hsb⟩ : ∃ sb, seenL L p = sb := ⟨_, rfl⟩
        rw [hsb] at HS hsp
        have HSP := Lib.hid hsp
        have HSB := Lib.hid hsb
        have HOK := Lib.hid hok
        clear hp hsp htk hkl hsb hok hL
        cases sb with
        | true =>
          go_upto_region 10 with (fail)
          go_wp2_with (rw [← hwe])
          refine HS.out.mono ?_
          rintro e wf ⟨rfl, hwf, hof⟩
          have hwf2 : WinAt wf B L := hwf
          have hsn := Seen_any hwf2 HOK.out p
          rw [HSB.out] at hsn
          have HSN := Lib.hid hsn
          have HW1 := Lib.hid hwf2
          have HV1 := Lib.hid (HV.out.only hof (by have := HNE.out; omega))
          have HM1 := Lib.hid (HM.out.only hof (by have := HNE.out; omega))
          have HO1 : Hid (Only (fun k => k = B ∨ k = vb ∨ k = mc) wm wf) := Lib.hid (HO.out.trans hof fun _ _ e => Or.inl e)
          clear hsn hwf hwf2 hof HS hwe x0 HW HV HM HO
          go_wp2_with fail
          refine HSN.out.mono ?_
          rintro e wg ⟨rfl, hbg⟩
          have HW2 := Lib.hid (HW1.out.later hbg)
          have HV2 := Lib.hid (HV1.out.later hbg)
          have HM2 := Lib.hid (HM1.out.later hbg)
          have HO2 : Hid (Only (fun k => k = B ∨ k = vb ∨ k = mc) wm wg) := Lib.hid (HO1.out.trans (S' := fun _ => False) (Only.of_below hbg) fun _ _ e => e.elim)
          have HE : Hid ((seeL [] (ks.take (k + 1))).2 = L) := Lib.hid (by rw [HSP.out]; exact HLQ.out)
          clear hbg HSN HW1 HV1 HM1 HO1
          go_wp2_with fail
          go_roundw
          case rel => exact ⟨k + 1, by omega, by go_num, Lib.hid (by rw [HE.out]; exact HW2.out), HV2, Lib.hid (by rw [HE.out]; exact HM2.out), HO2⟩
          case measure => simp [intOf]; omega
        | false =>
          go_upto_region 10 with (fail)
          go_wp2_with (rw [← hwe])
          refine HS.out.mono ?_
          rintro e wf ⟨rfl, hwf, hof⟩
          have hwf2 : WinAt wf B (L ++ [p]) := hwf
          have hok2 : Wok (L ++ [p]) := HOK.out.snoc HSB.out
          have hpn := hok2 p (by simp)
          have hnp : p ∉ L := fun e => by
            have := seenL_mem e
            rw [HSB.out] at this
            cases this
          have HV1 := Lib.hid (HV.out.only hof (by have := HNE.out; omega))
          have hm1 := HM.out.only hof (by have := HNE.out; omega)
          have hlook := hm1.look hpn.1 hpn.2 hnp
          obtain ⟨wg, hst, hm2, hog⟩ := hm1.store hpn.1 hpn.2 hnp
          have hwg := hwf2.only hog (by have := HNE.out; omega)
          have hsn := Seen_any hwg hok2 p
          rw [seenL_mem (L := L ++ [p]) (n := p) (by simp)] at hsn
          have HSN := Lib.hid hsn
          have HW2 := Lib.hid hwg
          have HM2 := Lib.hid hm2
          have HV2 := Lib.hid (HV1.out.only hog (by have := HNE.out; omega))
          have HO2 : Hid (Only (fun k => k = B ∨ k = vb ∨ k = mc) wm wg) := Lib.hid ((HO.out.trans hof fun _ _ e => Or.inl e).trans hog fun _ _ e => Or.inr (Or.inr e))
          have HE : Hid ((seeL [] (ks.take (k + 1))).2 = L ++ [p]) := Lib.hid (by rw [HSP.out]; rfl)
          clear hwf hwf2 hof hok2 hpn hnp hm1 hm2 hog hwg hsn HV1 HS hwe x0 HW HV HM HO
          go_wp2_with fail
          refine HSN.out.mono ?_
          rintro e wh ⟨rfl, hbh⟩
          have HW3 := Lib.hid (HW2.out.later hbh)
          have HV3 := Lib.hid (HV2.out.later hbh)
          have HM3 := Lib.hid (HM2.out.later hbh)
          have HO3 : Hid (Only (fun k => k = B ∨ k = vb ∨ k = mc) wm wh) := Lib.hid (HO2.out.trans (S' := fun _ => False) (Only.of_below hbh) fun _ _ e => e.elim)
          clear hbh HSN HW2 HV2 HM2 HO2 hlook hst
          go_wp2_with fail
          go_roundw
          case rel => exact ⟨k + 1, by omega, by go_num, Lib.hid (by rw [HE.out]; exact HW3.out), HV3, Lib.hid (by rw [HE.out]; exact HM3.out), HO3⟩
          case measure => simp [intOf]; omega
      · obtain rfl : k = n := by omega
        have htk : ks.take k = ks := List.take_of_length_le (by rw [HLN.out]; exact Nat.le_refl _)
        rw [htk] at HW HM
        obtain ⟨hok, _, _, hlen⟩ := seeL_spec [] Wok.nil _ ks rfl
        obtain ⟨L, hL⟩ : ∃ L, (seeL [] ks).2 = L := ⟨_, rfl⟩
        obtain ⟨M, hM⟩ : ∃ M, (seeL [] ks).1 = M := ⟨_, rfl⟩
        have hML : M = (L.length : Int) := by
          have h2 := (seeL_spec [] Wok.nil _ ks rfl).2.1
          rw [hL, hM] at hlen
          rw [hM] at h2
          simp only [List.length_nil] at hlen
          omega
        have hseen := seeL_seen [] ks
        rw [hL] at HW HM hok hseen
        obtain ⟨len, hlenq⟩ : ∃ len : Int, (L.length : Int) = len := ⟨_, rfl⟩
        rw [hlenq] at hML
        have HLE := Lib.hid hlenq
        have HOK := Lib.hid hok
        have HML : Hid ((seeL [] ks).1 = len) := Lib.hid (hM.trans hML)
        have HSEEN : Hid (seeL L ks = (0, L)) := Lib.hid (seeL_none hseen)
        have HKL : Hid (ks.length ≤ 140737488355328) := Lib.hid (by rw [HLN.out]; omega)
        have hSee : ∀ wi q L', (q = B ∨ q = vb) → Only (fun k => k = B ∨ k = vb ∨ k = mc) wm wi → WinAt wi q L' → Wok L' → Calls Try.prog 6 #[.pointer (some ⟨q, 0, none⟩), .slice A k cap] wi fun e w' => e = .returned (.int .i64 (seeL L' ks).1) ∧ WinAt w' q (seeL L' ks).2 ∧ Only (fun k => k = q) wi w' := fun wi q L' hq ho hw hok' => by
          have h1 := See_any hw hok' cap (HHM.out wi ho) (HAb.out q hq) HKL.out
          rw [HLN.out] at h1
          exact h1
        have HSee := Lib.hid hSee
        have HCN := Lib.hid (Clear_nil wr)
        clear htk hlen hL hM hML hseen hlenq hok hSee
        go_wp2_with fail
        refine HCN.out.mono ?_
        rintro e wc ⟨rfl, hbc⟩
        have HOC : Hid (Only (fun k => k = B ∨ k = vb ∨ k = mc) wm wc) := Lib.hid (HO.out.trans (S' := fun _ => False) (Only.of_below hbc) fun _ _ e => e.elim)
        have h1 := HSee.out wc vb [] (Or.inr rfl) HOC.out (HV.out.later hbc) Wok.nil
        rw [HML.out] at h1
        have HS1 := Lib.hid h1
        have HWC := Lib.hid (HW.out.later hbc)
        have HMC := Lib.hid (HM.out.later hbc)
        clear hbc h1 HCN HW HM HV HO
        go_wp2_with fail
        refine HS1.out.mono ?_
        rintro e wd ⟨rfl, _, hod⟩
        have HWD := Lib.hid (HWC.out.only hod (by have := HNE.out; omega))
        have hmd := HMC.out.only hod (by have := HNE.out; omega)
        have hlenm := hmd.len
        rw [HLE.out] at hlenm
        have HOD : Hid (Only (fun k => k = B ∨ k = vb ∨ k = mc) wm wd) := Lib.hid (HOC.out.trans hod fun _ _ e => Or.inr (Or.inl e))
        have h2 := HSee.out wd B L (Or.inl rfl) HOD.out HWD.out HOK.out
        rw [HSEEN.out] at h2
        have HS2 := Lib.hid h2
        clear hod hmd h2 HS1 HWC HMC HOC
        go_wp2_with fail
        refine HS2.out.mono ?_
        rintro e we ⟨rfl, _, hoe⟩
        have HOE : Hid (Only (fun k => k = B ∨ k = vb ∨ k = mc) wm we) := Lib.hid (HOD.out.trans hoe fun _ _ e => Or.inl e)
        have h3 := See_nil cap (HHM.out we HOE.out) HKL.out
        rw [HLN.out] at h3
        have HS3 := Lib.hid h3
        clear hoe h3 HS2 HWD HOD hlenm
        go_wp2_with fail
        refine HS3.out.mono ?_
        rintro e wf ⟨rfl, hbf⟩
        have HOF : Hid (Only (fun k => k = B ∨ k = vb ∨ k = mc) wm wf) := Lib.hid (HOE.out.trans (S' := fun _ => False) (Only.of_below hbf) fun _ _ e => e.elim)
        have HS4 := Lib.hid (Seen_nil wf 1)
        clear hbf HS3 HOE
        go_wp2_with fail
        refine HS4.out.mono ?_
        rintro e wg ⟨rfl, hbg⟩
        have HOG : Hid (Only (fun k => k = B ∨ k = vb ∨ k = mc) wm wg) := Lib.hid (HOF.out.trans (S' := fun _ => False) (Only.of_below hbg) fun _ _ e => e.elim)
        have HS5 := Lib.hid (Greatest_nil wg)
        clear hbg HS4 HOF
        go_wp2_with fail
        refine HS5.out.mono ?_
        rintro e wh ⟨rfl, hbh⟩
        have HOH : Hid (Only (fun k => k = B ∨ k = vb ∨ k = mc) wm wh) := Lib.hid (HOG.out.trans (S' := fun _ => False) (Only.of_below hbh) fun _ _ e => e.elim)
        clear hbh HS5 HOG
        go_wp2_with fail
        go_returns
        refine ⟨rfl, HB1.out.trans ?_⟩
        have h5 := HB0.out.size
        have h6 := (HB0.out.trans (HOH.out.below h5 fun k e => by
          have := HNE.out
          have := HBq.out
          omega))
        exact h6.mono HB1.out.size

theorem opened {H : Type} {enc : TypeId × Value → H} {W : World} {base : Nat} {gs : List (DataW H)} (v0 : Value) (d0 : DataW H) (p0 : List MemPlace)
    (o0 : Value.okWide Try.prog W .any base 22 v0) (t0 : DataW.Trod enc Try.prog W 0 (fun _ => true) true 22 v0 d0 p0)
    (_hsz : (DataW.weightsEach Try.prog ([22] ++ []) ([d0] ++ gs)).all (· ≤ reachBytes) = true) :
    Calls Try.prog 4 #[v0] W fun e W' => e = .returned (.bool true) ∧ Below W.heap.size W W' := by
  obtain ⟨A, ks, cap, rfl, h1, h2⟩ := arg_ints o0 t0
  exact walk A ks cap W h1 h2

theorem contract (H : Type) (enc : TypeId × Value → H) (W : World) (base : Nat) (args : Array Value) (ds gs : List (DataW H)) (before : List MemPlace)
    (hval : ∀ (j : Nat) t v, Try.f4.params[j]? = some t → args[j]? = some v → Value.okWide Try.prog W .any base t v)
    (hW : DataW.Whole enc Try.prog Try.f4.params.toList Rows.windowOnceSpec.vars false W args.toList ds gs before)
    (hsz : (DataW.weightsEach Try.prog (Try.f4.params.toList ++ []) (ds ++ gs)).all (· ≤ reachBytes) = true) :
    Calls Try.prog 4 args W fun e W' => ∃ v, e = .returned v ∧ Rows.windowOnceSpec.post enc Try.prog Try.f4 false true false false W args v W' := by
  have hW0 := hW
  obtain ⟨p, q, hA0, hV, rfl, _, _⟩ := hW
  have hA : DataW.TrodAll enc Try.prog W 0 (fun _ => true) true Try.f4.params.toList args.toList ds p := hA0
  rw [Try.params4] at hA hval hsz
  obtain ⟨v0, vs0, d0, ds0, p0, q0, hargs, rfl, rfl, h0, r0⟩ := trodAll_cons hA
  obtain ⟨rfl, rfl, rfl⟩ := trodAll_nil r0
  obtain rfl : args = #[v0] := by cases args; simp_all
  refine (opened v0 d0 p0 (hval 0 22 v0 rfl rfl) h0 hsz).mono fun e W' ⟨he, hb⟩ => ⟨_, he, ?_⟩
  exact Base.law_post (tb := 4) Base.laidOut (by kernel_rfl) rfl Try.underlying4 rfl (fun l hl => by
    rw [Try.params4] at hl
    match l, hl with
    | [_], _ => rfl) (by rw [Try.params4]; rfl) hW0 hb

theorem laid_met (os : Os) : laidMet Try.prog Rows.windowOnceRow.laid ((Base.plainWorld os).forCall (fun _ _ => 0) ⟨#[], #[.slice none 0 0], []⟩).memory := laidMet_nil _ _
theorem reads (os : Os) {H : Type} (enc : TypeId × Value → H) : ∃ places, DataW.whole enc Try.prog ((Base.plainWorld os).forCall (fun _ _ => 0) ⟨#[], #[.slice none 0 0], []⟩).memory Try.f4.params.toList Rows.windowOnceSpec.vars false (#[.slice none 0 0] : Array Value).toList 8 = some ([.nil], [], places) :=
  ⟨[], by kernel_rfl⟩

set_option maxRecDepth 100000 in
theorem lifted (os : Os) (started : os.Started) (H : Type) (enc : TypeId × Value → H) (F : Stop.Interp) :
    ReturnsInHanded {} Try.checked os 4 .any ((OpenSpec.ofChange Rows.windowOnceSpec).preRow enc Try.prog Try.f4 Rows.windowOnceRow.domain false Rows.windowOnceRow.laid) (((OpenSpec.ofChange Rows.windowOnceSpec).at F).post enc Try.prog Try.f4 false true false false) := by
  obtain ⟨places, hx⟩ := reads os enc
  refine returnsInHanded_of_row (C := Try.checked) (s := OpenSpec.ofChange Rows.windowOnceSpec) Base.own started (by kernel_rfl) Try.func4
    (witness_row_at (enc := enc) (C := Try.checked) false (Base.plainWorld os) #[.slice none 0 0] rfl (by kernel_rfl) (by kernel_rfl) (by kernel_rfl)
      (OpenSpec.preRow_of_cond 8 hx (by kernel_rfl) (fun k hk => by cases hk) (by kernel_rfl) (laid_met os))) ?_
  intro W base args ds gs before hval hW _ _ hsz _ _ _
  exact contract H enc W base args ds gs before hval hW hsz

theorem said : Rows.WindowOnceSaid :=
  OpenClaim.holds_of_cond 4 Try.f4 rfl rfl rfl rfl rfl rfl rfl ⟨rfl, rfl, rfl, rfl, rfl⟩ rfl rfl rfl rfl rfl (by kernel_rfl) Try.func4 (by kernel_rfl)
    (of_decide_eq_true (by kernel_rfl)) (by unfold Func.isWrapper; rw [if_neg (of_decide_eq_false (by kernel_rfl))]; exact ⟨rfl, rfl⟩)
    (fun os started H enc _ F => by rw [OpenClaim.pre_eq_preRow]; exact lifted os started H enc F)
#print axioms said
end Go.Proofs.Ytplaacgahloooaa.WindowOnce
