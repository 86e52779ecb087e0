/-
  Layer 14, the document's session: Take. Conditions: none.
-/
import Derived.Test.YtjfejfhdohpfbaaSesTk2
import Derived.Test.YtjfejfhdohpfbaaSesRefR
namespace Go.Proofs.Ytjfejfhdohpfbaa.Ses
set_option maxRecDepth 100000
open Go.RowKit Go.Deep Go.Proofs.Ytjfejfhdohpfbaa.Mem Go.Proofs.Ytjfejfhdohpfbaa.Win

section
variable {B rb N : Nat} {F : Nat → Prop} {w : World} {S : Sm}
theorem tk_none (h : RAt B F w rb S) (er : Int) {w2 : World} (hb : Below w.heap.size w w2) : TkEnds B rb F w (⟨#[]⟩, [], er, S) (.returned (.tuple #[.string ⟨#[]⟩, .slice none 0 0, .int .i64 er])) w2 :=
  ⟨none, 0, F, rfl, OwnG.nil _ _ _ _ _, RStep.same h hb, fun k e => by cases e⟩
theorem midM_take {S : Sm} {i : Nat} {e : Ev} (hi : i < S.peers.length) (ho : other S ((i : Int) + 1) = true) (hr : rightE e = true) (hl : ¬ e.epoch < S.peers[i].known) : takeM S ((i : Int) + 1) e = midM S ((i : Int) + 1) e S.peers[i] := by
  unfold takeM midM
  rw [if_neg (by rw [ho]; simp), if_neg (by rw [hr]; simp), peerOf_at hi, if_neg hl]
set_option maxHeartbeats 4000000 in
theorem RTake_any (h : RAt B F w rb S) (hS : Sok N S) (hB : B ≤ w.heap.size) (hLs : ∀ p ∈ S.peers, p.L.length ≤ 1000) (x : Int) (e : Ev) (hpay : e.pay.size ≤ 140737488355328) :
    Calls Try.prog 22 #[.pointer (some ⟨rb, 0, none⟩), .int .i64 x, e.val] w (TkEnds B rb F w (takeM S x e)) := by
  have hh := h
  obtain ⟨pb, pc, As, cs, Ds, ds, hx⟩ := h
  obtain ⟨wa, hwa⟩ : ∃ W, W = w.alloc (.cells #[.int .i64 e.kind, .int .i64 e.epoch, .int .i64 e.peer, .int .i64 e.seq, .string e.pay] 25) := ⟨_, rfl⟩
  have hba : Below w.heap.size w wa := by rw [hwa]; exact below_alloc _ _
  have hca : Cells wa w.heap.size 25 e.vals := by rw [hwa]; exact cells_new _ _ _ _ rfl
  have HO := Lib.hid (ROther_any (hx.later hba) x)
  have HBA := Lib.hid hba
  have HE := Lib.hid hca
  have HH := Lib.hid hh
  have y0 := hca.cell (j := 0) rfl
  have y1 := hca.cell (j := 1) rfl
  have y2 := hca.cell (j := 2) rfl
  have y3 := hca.cell (j := 3) rfl
  have y4 := hca.cell (j := 4) rfl
  cases ho : other S x with
  | false =>
    rw [ho] at HO
    have e0 : takeM S x e = (⟨#[]⟩, [], 1, S) := by unfold takeM; rw [if_pos ho]
    rw [e0]
    clear hx hba hca hh ho e0 hS hLs y0 y1 y2 y3 y4
    go_enter Try.func22, Try.ntmps22
    go_upto_region 1 with (fail)
    rw [← hwa]
    clear hwa
    go_wp2_with fail
    refine HO.out.mono ?_
    rintro r w1 ⟨rfl, rfl⟩
    go_wp2_with fail
    go_returns
    exact tk_none HH.out 1 HBA.out
  | true =>
    rw [ho] at HO
    have HR := Lib.hid (rright_any e hpay wa)
    cases hr : rightE e with
    | false =>
      rw [hr] at HR
      have e0 : takeM S x e = (⟨#[]⟩, [], 1, S) := by unfold takeM; rw [if_neg (by rw [ho]; simp), if_pos hr]
      rw [e0]
      clear hx hba hca hh ho hr e0 hS hLs
      go_enter Try.func22, Try.ntmps22
      go_upto_region 1 with (fail)
      rw [← hwa]
      clear hwa
      go_wp2_with fail
      refine HO.out.mono ?_
      rintro r w1 ⟨rfl, rfl⟩
      go_wp2_with fail
      refine HR.out.mono ?_
      rintro r w2 ⟨rfl, hb2⟩
      have HB2 := Lib.hid (HBA.out.trans (hb2.mono HBA.out.size))
      clear hb2
      go_wp2_with fail
      go_returns
      exact tk_none HH.out 1 HB2.out
    | true =>
      rw [hr] at HR
      obtain ⟨i, hi, rfl, hnode⟩ := other_at ho
      obtain ⟨p, hp⟩ : ∃ p, S.peers[i]'hi = p := ⟨_, rfl⟩
      have hpk := hS.peers _ (List.getElem_mem hi)
      have hpl := hLs _ (List.getElem_mem hi)
      rw [hp] at hpk hpl
      have hn16 := hS.n2
      have HP : Hid (∀ hz : i < S.peers.length, S.peers[i]'hz = p) := Lib.hid fun _ => hp
      have hpi0 := hx.peer i hi
      rw [hp] at hpi0
      have hpia : ∀ w2, Below w.heap.size w w2 → CellsO w2 pb (i * 4) (rpv p (As i) (cs i) (Ds i) (ds i)) := fun w2 hb => hpi0.1.later hb
      have HPI := Lib.hid hpia
      have HRW := Lib.hid hpi0.2
      have HX := Lib.hid hx
      have HI := Lib.hid hi
      have HPK := Lib.hid hpk
      have HPL := Lib.hid hpl
      have HN16 := Lib.hid hn16
      have hep := rightE_epoch hr
      have HEP := Lib.hid hep
      have HBW := Lib.hid hB
      obtain ⟨m, hm⟩ : ∃ m, S.peers.length = m := ⟨_, rfl⟩
      have HM := Lib.hid hm
      have him : i < m := by rw [← hm]; exact hi
      have hm16 : m ≤ 16 := by rw [← hm]; exact hn16
      have hiw : IntKind.i64.wrap ((i : Int) + 1 - 1) = (i : Int) := by rw [IntKind.wrap_i64]; omega
      by_cases hlt : e.epoch < p.known
      · have e0 : takeM S ((i : Int) + 1) e = (⟨#[]⟩, [], 11, S) := by
          unfold takeM
          rw [if_neg (by rw [ho]; simp), if_neg (by rw [hr]; simp), peerOf_at hi, hp, if_pos hlt]
        rw [e0]
        have e1 : decide (e.epoch < p.known) = true := decide_eq_true hlt
        clear hx hba hca hh ho hr e0 hS hLs hnode hp hpk hpl hn16 hpi0 hpia hep hB hm hi hlt
        go_enter Try.func22, Try.ntmps22
        go_upto_region 1 with (fail)
        rw [← hwa]
        clear hwa
        go_wp2_with fail
        refine HO.out.mono ?_
        rintro r w1 ⟨rfl, rfl⟩
        go_wp2_with fail
        refine HR.out.mono ?_
        rintro r w2 ⟨rfl, hb2⟩
        have hb02 := HBA.out.trans (hb2.mono HBA.out.size)
        have c2 := (HX.out.later hb02).cel.cell (j := 2) rfl
        rw [HM.out] at c2
        have hpc := HPI.out w2 hb02
        have z0 : w2.cell? ⟨pb, i * 4, none⟩ = _ := hpc.cell (j := 0) rfl
        have z1 := hpc.cell (j := 1) rfl
        have z2 := hpc.cell (j := 2) rfl
        have z3 := hpc.cell (j := 3) rfl
        obtain ⟨wb, hwb⟩ : ∃ W, W = w2.alloc (.cells #[.slice (As i) p.L.length (cs i), .int .i64 p.known, .int .i64 (p.last + 1), .slice (Ds i) p.held.length (ds i)] 66) := ⟨_, rfl⟩
        have hbb : Below w2.heap.size w2 wb := by rw [hwb]; exact below_alloc _ _
        have hcb : Cells wb w2.heap.size 66 (rpv p (As i) (cs i) (Ds i) (ds i)) := by rw [hwb]; exact cells_new _ _ _ _ rfl
        have x1 := hcb.cell (j := 1) rfl
        have v1 := ((HE.out.later hb2).later hbb).cell (j := 1) rfl
        have HB9 := Lib.hid (hb02.trans (hbb.mono hb02.size))
        clear hb2 hb02 hpc hbb hcb y0 y1 y2 y3 y4
        go_upto_region 4 with (fail)
        rw [← hwb]
        clear hwb z0 z1 z2 z3 c2
        go_wp2_with fail
        go_returns
        exact tk_none HH.out 11 HB9.out
      · have e0 := midM_take hi ho hr (by rw [hp]; exact hlt)
        rw [hp] at e0
        rw [e0]
        have e1 : decide (e.epoch < p.known) = false := decide_eq_false hlt
        clear hx hba hca hh ho hr e0 hS hLs hnode hp hpk hpl hn16 hpi0 hpia hep hB hm hi hlt
        go_enter Try.func22, Try.ntmps22
        apply wp_seq_k
        intro K hK
        have HKT := Lib.hid hK
        clear hK
        go_wp2_with fail
        rw [← hwa]
        clear hwa
        refine HKT.out _ _ ?_
        clear HKT
        apply wp_seq_k
        intro K hK
        have HKT := Lib.hid hK
        clear hK
        go_wp2_with fail
        refine HO.out.mono ?_
        rintro r w1 ⟨rfl, rfl⟩
        go_wp2_with fail
        refine HR.out.mono ?_
        rintro r w2 ⟨rfl, hb2⟩
        have hb02 := HBA.out.trans (hb2.mono HBA.out.size)
        have HB02 := Lib.hid hb02
        have c2 := (HX.out.later hb02).cel.cell (j := 2) rfl
        rw [HM.out] at c2
        have hpc := HPI.out w2 hb02
        have z0 : w2.cell? ⟨pb, i * 4, none⟩ = _ := hpc.cell (j := 0) rfl
        have z1 := hpc.cell (j := 1) rfl
        have z2 := hpc.cell (j := 2) rfl
        have z3 := hpc.cell (j := 3) rfl
        obtain ⟨wb, hwb⟩ : ∃ W, W = w2.alloc (.cells #[.slice (As i) p.L.length (cs i), .int .i64 p.known, .int .i64 (p.last + 1), .slice (Ds i) p.held.length (ds i)] 66) := ⟨_, rfl⟩
        have hbb : Below w2.heap.size w2 wb := by rw [hwb]; exact below_alloc _ _
        have hcb : Cells wb w2.heap.size 66 (rpv p (As i) (cs i) (Ds i) (ds i)) := by rw [hwb]; exact cells_new _ _ _ _ rfl
        have heb := (HE.out.later hb2).later hbb
        have x1 := hcb.cell (j := 1) rfl
        have v1 := heb.cell (j := 1) rfl
        have hwk : Wk ⟨B, rb, pb, pc, F, w⟩ S F As cs Ds ds i wb w2.heap.size p (As i) (cs i) (Ds i) (ds i) none 0 [] := by
          have hx2 := HX.out
          have hb0b := hb02.trans (hbb.mono hb02.size)
          refine ⟨hx2.later hb0b, (RStep.same HH.out (Below.refl _ _)).after hb0b, hcb, OwnG.later HRW.out.win hb0b, OwnG.later HRW.out.row hb0b, OwnG.nil _ _ _ _ _, fun e => ?_, hb02.size, fun k e => (by cases e), fun k e => ⟨fun e2 => ?_, Or.inl e.symm⟩, fun k e => ⟨fun e2 => ?_, Or.inl e.symm, fun e2 => hx2.off i i k HI.out HI.out e e2⟩, HBW.out, HI.out⟩
          · have h1 := hx2.lt _ e
            have h2 := hb02.size
            omega
          · have h1 := (HRW.out.row.lt k (by rw [own_blk]; exact e)).2
            have h2 := hb02.size
            omega
          · have h1 := (HRW.out.win.lt k (by rw [own_blk]; exact e)).2
            have h2 := hb02.size
            omega
        have hebx : w.heap.size ≠ w2.heap.size := fun e2 => by
          have h1 := (HE.out.later hb2).lt
          omega
        obtain ⟨wc, hwc⟩ : ∃ W, W = wb.alloc (.cells #[] 121) := ⟨_, rfl⟩
        have hbc : Below wb.heap.size wb wc := by rw [hwc]; exact below_alloc _ _
        have hwk2 := hwk.newV
        rw [← hwc] at hwk2
        have HWK := Lib.hid hwk2
        have HEC := Lib.hid (heb.later hbc)
        have HEF : Hid (¬ F w.heap.size ∧ w.heap.size ≠ w2.heap.size ∧ w.heap.size ≤ w.heap.size) := Lib.hid ⟨fun e2 => Nat.lt_irrefl _ (HX.out.lt _ e2), hebx, Nat.le_refl _⟩
        have HEV : Hid (blk (some (⟨wb.heap.size, 0, none⟩ : Addr)) ≠ some w.heap.size) := Lib.hid fun e2 => by
          have h1 : wb.heap.size = w.heap.size := Option.some.inj e2
          have h2 := heb.lt
          omega
        have HAE : Hid (blk (As i) ≠ some w.heap.size ∧ blk (Ds i) ≠ some w.heap.size) := Lib.hid ⟨fun e2 => Nat.lt_irrefl _ (HRW.out.win.lt _ (by rw [own_blk]; exact e2)).2, fun e2 => Nat.lt_irrefl _ (HRW.out.row.lt _ (by rw [own_blk]; exact e2)).2⟩
        clear hb2 hb02 hpc hbb hcb heb hwk hebx hbc hwk2 y0 y1 y2 y3 y4
        go_wp2_with fail
        refine HKT.out _ _ ?_
        clear HKT
        apply wp_seq_k
        intro K hK
        have HKT := Lib.hid hK
        clear hK
        go_wp2_with fail
        rw [← hwb]
        clear hwb z0 z1 z2 z3 c2
        refine HKT.out _ _ ?_
        clear HKT
        apply wp_seq_k
        intro K hK
        have HKT := Lib.hid hK
        clear hK
        go_wp2_with fail
        refine HKT.out _ _ ?_
        clear HKT
        apply wp_seq_k
        intro K hK
        have HKT := Lib.hid hK
        clear hK
        go_wp2_with fail
        rw [← hwc]
        clear hwc
        exact HKT.out _ _ (tkMid HWK.out HN16.out HP.out HPK.out HPL.out HEC.out HEF.out HEV.out HAE.out HPK.out.len HEP.out (by kernel_rfl))
end
end Go.Proofs.Ytjfejfhdohpfbaa.Ses
