/-
  Layer 18: Free and Expire of a table of leases. Conditions: none.
-/
import Derived.Test.YtiobblmagjbhjaaLeaHold
namespace Go.Proofs.Ytiobblmagjbhjaa.Lea
set_option maxRecDepth 100000
open Go.RowKit Go.Deep Go.Proofs.Ytiobblmagjbhjaa.Mem

section
variable {B tb g : Nat} {w w1 : World} {T : List Sv}
/-- A row of numbers of the call's own. -/
abbrev OwnI (B : Nat) (w : World) (v : Value) (l : List Int) : Prop := OwnG 3 1 (fv fun x : Int => x) B w v l
theorem sv0_sets (w : World) (g o : Nat) : ((((w.setCell ⟨g, o, none⟩ (.int .i64 0)).setCell ⟨g, o + 1, none⟩ (.int .i64 0)).setCell ⟨g, o + 2, none⟩ (.int .i64 0)).setCell ⟨g, o + 3, none⟩ (.int .i64 0)).setCell ⟨g, o + 4, none⟩ (.bool false) = sets5 w g o sv0 := rfl
theorem Free1_any (s : Sv) (who : Lt) {pb : Nat} {w : World} (hp : Cells w pb 34 (lt3 who)) :
    Calls Try.prog 24 #[.agg #[.int .i64 s.tid.node, .int .i64 s.tid.epoch, .int .i64 s.tid.seq, .int .i64 s.til], .pointer (some ⟨pb, 0, none⟩)] w fun e w' => e = .returned (.bool (byWho who s)) ∧ Below w.heap.size w w' := by
  obtain ⟨wa, hwa⟩ : ∃ W, W = w.alloc (.cells #[.int .i64 s.tid.node, .int .i64 s.tid.epoch, .int .i64 s.tid.seq, .int .i64 s.til] 48) := ⟨_, rfl⟩
  have hba : Below w.heap.size w wa := by rw [hwa]; exact below_alloc _ _
  have hca : Cells wa w.heap.size 48 [.int .i64 s.tid.node, .int .i64 s.tid.epoch, .int .i64 s.tid.seq, .int .i64 s.til] := by rw [hwa]; exact cells_new _ _ _ _ rfl
  have y0 := hca.cell (j := 0) rfl
  have y1 := hca.cell (j := 1) rfl
  have y2 := hca.cell (j := 2) rfl
  have y3 := hca.cell (j := 3) rfl
  have hpa := hp.later hba
  have z0 := hpa.cell (j := 0) rfl
  have z1 := hpa.cell (j := 1) rfl
  have z2 := hpa.cell (j := 2) rfl
  have HB := Lib.hid hba
  have hq := lt_eql s.tid who
  unfold byWho
  obtain ⟨an, han⟩ : ∃ X, decide (s.tid = who) = X := ⟨_, rfl⟩
  rw [han] at hq ⊢
  clear hba hca hp hpa han
  go_enter Try.func24, Try.ntmps24
  go_upto_region 1 with (fail)
  rw [← hwa]
  clear hwa
  go_wp2_with fail
  go_returns
  exact ⟨rfl, HB.out⟩
set_option maxHeartbeats 2000000 in
theorem letGoFree_any (h : Tb B w tb g T) {pb : Nat} (who : Lt) (hp : Cells w pb 34 (lt3 who)) (hpg : pb ≠ g) :
    Calls Try.prog 23 #[.pointer (some ⟨tb, 0, none⟩), .func (.func 24) #[] #[.pointer (some ⟨pb, 0, none⟩)]] w fun e w' => ∃ A n c, e = .returned (.slice A n c) ∧ OwnI w.heap.size w' (.slice A n c) (goneT (byWho who) 0 T) ∧ Tb B w' tb g (dropT (byWho who) T) ∧ Only (fun j => j = g) w w' := by
  have HP : Hid (∀ wr, Only (fun j => j = g) w wr → Cells wr pb 34 (lt3 who)) := Lib.hid fun wr ho => cells_only hp ho hpg
  have HGL : Hid (g < w.heap.size ∧ tb < w.heap.size ∧ tb ≠ g) := Lib.hid ⟨h.glt.2, h.box.lt, fun e => h.far e.symm⟩
  have h0 : Hid (Tb B w tb g (midT (byWho who) T 0)) := Lib.hid (by rw [midT_zero]; exact h)
  have c0 := h.box.cell (j := 0) rfl
  obtain ⟨P, hP⟩ : ∃ P : Sv → Bool, P = byWho who := ⟨_, rfl⟩
  have HQ : Hid (∀ (wi : World) (s : Sv), Only (fun j => j = g) w wi → Calls Try.prog 24 #[.agg #[.int .i64 s.tid.node, .int .i64 s.tid.epoch, .int .i64 s.tid.seq, .int .i64 s.til], .pointer (some ⟨pb, 0, none⟩)] wi fun e w' => e = .returned (.bool (P s)) ∧ Below wi.heap.size wi w') := Lib.hid fun wi s ho => by rw [hP]; exact Free1_any s who (HP.out wi ho)
  rw [← hP] at h0 ⊢
  obtain ⟨m, hm⟩ : ∃ m, T.length = m := ⟨_, rfl⟩
  rw [hm] at c0
  have HM := Lib.hid hm
  have hm16 : m ≤ 16 := by rw [← hm]; exact h.ok.len
  clear h hp hpg hm hP HP
  go_enter Try.func23, Try.ntmps23
  go_wp2_with fail
  clear c0
  go_loopw [5, 6, 7, 15] (fun a _ _ i wr => ∃ (k : Nat) (A : Option Addr) (n c : Nat), k ≤ m ∧ i = .int .i64 (k : Int) ∧ a = .slice A n c ∧ Hid (Tb B wr tb g (midT P T k)) ∧ Hid (OwnI w.heap.size wr (.slice A n c) (goneT P 0 (T.take k))) ∧ Hid (Only (fun j => j = g) w wr)) (fun _ _ _ i _ => m - (intOf i).toNat)
  case atStart => exact ⟨0, none, 0, 0, Nat.zero_le _, rfl, rfl, h0, Lib.hid (OwnG.nil _ _ _ _ _), Lib.hid (Only.of_below (Below.refl _ _))⟩
  case round =>
    clear h0
    obtain ⟨k, A, n, c, hk, rfl, rfl, HT, HV, HO⟩ := hrel
    by_cases hlt : k < m
    · have hkT : k < T.length := by rw [HM.out]; exact hlt
      have hkm : k < (midT P T k).length := by rw [midT_len]; exact hkT
      have hel := HT.out.elem hkm
      rw [midT_at P hkT] at hel
      have hgm := goneT_more P hkT
      have HSM := Lib.hid (fun e : (T[k].held && P T[k]) = false => midT_same P hkT e)
      have HNX := Lib.hid (midT_next P hkT)
      have HLEN : Hid ((goneT P 0 (T.take k)).length ≤ 16) := Lib.hid (Nat.le_trans (goneT_len ..) (by rw [List.length_take]; omega))
      obtain ⟨s, hs⟩ : ∃ s, T[k] = s := ⟨_, rfl⟩
      rw [hs] at hel hgm HSM HNX
      have HGM := Lib.hid hgm
      have HKM := Lib.hid hkm
      have x0 : wr.cell? ⟨g, k * 5, none⟩ = _ := hel.cell (j := 0) rfl
      have x1 := hel.cell (j := 1) rfl
      have x2 := hel.cell (j := 2) rfl
      have x3 := hel.cell (j := 3) rfl
      have x4 := hel.cell (j := 4) rfl
      obtain ⟨wb, hwb⟩ : ∃ W, W = wr.alloc (.cells #[.int .i64 s.tid.node, .int .i64 s.tid.epoch, .int .i64 s.tid.seq, .int .i64 s.til, .bool s.held] 66) := ⟨_, rfl⟩
      have hbb : Below wr.heap.size wr wb := by rw [hwb]; exact below_alloc _ _
      have hcb : Cells wb wr.heap.size 66 s.vals := by rw [hwb]; exact cells_new _ _ _ _ rfl
      have y0 := hcb.cell (j := 0) rfl
      have y1 := hcb.cell (j := 1) rfl
      have y2 := hcb.cell (j := 2) rfl
      have y3 := hcb.cell (j := 3) rfl
      have y4 := hcb.cell (j := 4) rfl
      have HTB := Lib.hid (HT.out.later hbb)
      have HVB := Lib.hid (HV.out.later hbb)
      have HOB : Hid (Only (fun j => j = g) w wb) := Lib.hid (HO.out.trans (Only.of_below hbb) fun _ _ e => e)
      have HCL := Lib.hid (HQ.out wb s HOB.out)
      clear hkT hkm hel hgm hs hbb hcb HT HV HO
      go_upto_region 7 with (fail)
      rw [← hwb]
      clear hwb x0 x1 x2 x3 x4
      obtain ⟨sh, hsh⟩ : ∃ b, s.held = b := ⟨_, rfl⟩
      have hS := hsh
      rw [hsh] at y4
      have HSH := Lib.hid hsh
      clear hS hsh
      cases sh with
      | false =>
        have HT2 : Hid (Tb B wb tb g (midT P T (k + 1))) := Lib.hid (by rw [HSM.out (by rw [HSH.out]; rfl)]; exact HTB.out)
        have HV2 : Hid (OwnI w.heap.size wb (.slice A n c) (goneT P 0 (T.take (k + 1)))) := Lib.hid (by rw [HGM.out, HSH.out, Bool.false_and, if_neg Bool.false_ne_true, List.append_nil]; exact HVB.out)
        clear HCL HTB HVB
        go_wp2_with fail
        go_roundw
        case rel => exact ⟨k + 1, A, n, c, by omega, by go_num, rfl, HT2, HV2, HOB⟩
        case measure => simp [intOf]; omega
      | true =>
        obtain ⟨ps, hps⟩ : ∃ b, P s = b := ⟨_, rfl⟩
        rw [hps] at HCL
        have HPS := Lib.hid hps
        clear hps
        go_wp2_with fail
        refine HCL.out.mono ?_
        rintro e w2 ⟨rfl, hb2⟩
        have HT2 := Lib.hid (HTB.out.later hb2)
        have HV2 := Lib.hid (HVB.out.later hb2)
        have HO2 : Hid (Only (fun j => j = g) w w2) := Lib.hid (HOB.out.trans (Only.of_below hb2) fun _ _ e => e)
        clear hb2 HCL HTB HVB HOB y0 y1 y2 y3 y4
        cases ps with
        | false =>
          have HT3 : Hid (Tb B w2 tb g (midT P T (k + 1))) := Lib.hid (by rw [HSM.out (by rw [HSH.out, HPS.out]; rfl)]; exact HT2.out)
          have HV3 : Hid (OwnI w.heap.size w2 (.slice A n c) (goneT P 0 (T.take (k + 1)))) := Lib.hid (by rw [HGM.out, HSH.out, HPS.out, if_neg (by decide), List.append_nil]; exact HV2.out)
          clear HT2 HV2
          go_wp2_with fail
          go_roundw
          case rel => exact ⟨k + 1, A, n, c, by omega, by go_num, rfl, HT3, HV3, HO2⟩
          case measure => simp [intOf]; omega
        | true =>
          have hdr : dropS P s = sv0 := by
            unfold dropS
            rw [HSH.out, HPS.out]
            rfl
          have hT2 := HT2.out
          have c0 := hT2.box.cell (j := 0) rfl
          rw [midT_len, HM.out] at c0
          have hel := hT2.elem HKM.out
          have x0 : w2.cell? ⟨g, k * 5, none⟩ = _ := hel.cell (j := 0) rfl
          have x1 := hel.cell (j := 1) rfl
          have x2 := hel.cell (j := 2) rfl
          have x3 := hel.cell (j := 3) rfl
          have x4 := hel.cell (j := 4) rfl
          have f0 : w2.frozen? ⟨g, k * 5, none⟩ = false := hel.frozen (j := 0) (by simp [Sv.vals])
          have f1 := hel.frozen (j := 1) (by simp [Sv.vals])
          have f2 := hel.frozen (j := 2) (by simp [Sv.vals])
          have f3 := hel.frozen (j := 3) (by simp [Sv.vals])
          have f4 := hel.frozen (j := 4) (by simp [Sv.vals])
          have hput := hT2.put HKM.out sv0 fun _ => rfl
          rw [← hdr, ← HNX.out, hdr] at hput
          have ho3 := only_sets5 w2 g (k * 5) sv0
          obtain ⟨w3, hw3⟩ : ∃ W, sets5 w2 g (k * 5) sv0 = W := ⟨_, rfl⟩
          have HW3 := Lib.hid hw3
          rw [hw3] at hput ho3
          have hv3 := HV2.out.only ho3 fun j e e2 => by
            have h1 := (HV2.out.lt e).1
            have h2 := HGL.out.1
            omega
          have hon3 := HO2.out.trans ho3 fun _ _ e => e
          obtain ⟨A', n', c', w4, hrun, hrow, hon, hnb⟩ := OwnG.iapp hv3 (k : Int) hon3.size (by have := HLEN.out; omega)
          have hlo : ∀ j, some j = blk A → w.heap.size ≤ j := fun j e => (HV2.out.lt (by rw [own_blk]; exact e.symm)).1
          have HT4 : Hid (Tb B w4 tb g (midT P T (k + 1))) := Lib.hid (hput.only hon (fun e => by have h1 := hlo _ e; have h2 := HGL.out.2.1; omega) fun e => by have h1 := hlo _ e; have h2 := HGL.out.1; omega)
          have HV4 : Hid (OwnI w.heap.size w4 (.slice A' n' c') (goneT P 0 (T.take (k + 1)))) := Lib.hid (by rw [HGM.out, HSH.out, HPS.out, if_pos (by decide)]; exact hrow)
          have HO4 : Hid (Only (fun j => j = g) w w4) := Lib.hid (hon3.trans2 hon fun j e => hlo j e)
          have HRUN := Lib.hid hrun
          clear hT2 hel hput ho3 hw3 hv3 hon3 hrun hrow hon hnb hlo hdr HT2 HV2 HO2
          go_upto_region 9 with (fail)
          rw [sv0_sets, HW3.out]
          clear HW3 x0 x1 x2 x3 x4 f0 f1 f2 f3 f4 c0
          go_wp2_with (at_builtin
                       refine Lib.wpList_append_run (w3.alloc (.cells #[.int .i64 (k : Int)] 3)) rfl (.tmp 35) (.tmp 37) 35 35 rfl (.slice A n c) (.slice (some ⟨w3.heap.size, 0, none⟩) 1 1) rfl rfl _ _ HRUN.out ?_)
          go_roundw
          case rel => exact ⟨k + 1, A', n', c', by omega, by go_num, rfl, HT4, HV4, HO4⟩
          case measure => simp [intOf]; omega
    · obtain rfl : k = m := by omega
      have HF : Hid (Tb B wr tb g (dropT P T)) := Lib.hid (by have h1 := HT.out; rwa [midT_end P (Nat.le_of_eq HM.out)] at h1)
      have HG : Hid (OwnI w.heap.size wr (.slice A n c) (goneT P 0 T)) := Lib.hid (by have h1 := HV.out; rwa [List.take_of_length_le (Nat.le_of_eq HM.out)] at h1)
      go_wp2_with fail
      go_returns
      exact ⟨_, _, _, rfl, HG.out, HF.out, HO.out⟩
theorem Free_any (h : Tb B w tb g T) (who : Lt) :
    Calls Try.prog 13 #[.pointer (some ⟨tb, 0, none⟩), .agg #[.int .i64 who.node, .int .i64 who.epoch, .int .i64 who.seq]] w fun e w' => ∃ A n c, e = .returned (.slice A n c) ∧ OwnI w.heap.size w' (.slice A n c) (goneT (byWho who) 0 T) ∧ Tb B w' tb g (dropT (byWho who) T) ∧ Only (fun j => j = g) w w' := by
  obtain ⟨wa, hwa⟩ : ∃ W, W = w.alloc (.cells #[.int .i64 who.node, .int .i64 who.epoch, .int .i64 who.seq] 34) := ⟨_, rfl⟩
  have hba : Below w.heap.size w wa := by rw [hwa]; exact below_alloc _ _
  have hca : Cells wa w.heap.size 34 (lt3 who) := by rw [hwa]; exact cells_new _ _ _ _ rfl
  have HL := Lib.hid (letGoFree_any (h.later hba) who hca (fun e => by have := h.glt.2; omega))
  have HB := Lib.hid hba
  clear h hba hca
  go_enter Try.func13, Try.ntmps13
  go_upto_region 1 with (fail)
  rw [← hwa]
  clear hwa
  go_wp2_with fail
  refine HL.out.mono ?_
  rintro e w2 ⟨A, n, c, rfl, hrow, ht, ho⟩
  have HR := Lib.hid (And.intro hrow (And.intro ht ho))
  clear hrow ht ho HL
  go_wp2_with fail
  go_returns
  exact ⟨_, _, _, rfl, OwnG.up HB.out.size HR.out.1, HR.out.2.1, (Only.of_below HB.out).trans HR.out.2.2 fun _ _ e => e⟩
theorem Free_nil (who : Lt) (w : World) : Calls Try.prog 13 #[.pointer none, .agg #[.int .i64 who.node, .int .i64 who.epoch, .int .i64 who.seq]] w fun e w' => e = .returned (.slice none 0 0) ∧ Below w.heap.size w w' := by
  have HL : Hid (∀ (v : Value) (wi : World), Calls Try.prog 23 #[.pointer none, v] wi fun e w' => e = .returned (.slice none 0 0) ∧ w' = wi) := Lib.hid fun v wi => by
    go_enter Try.func23, Try.ntmps23
    go_wp2_with fail
    go_returns
    exact ⟨rfl, rfl⟩
  obtain ⟨wa, hwa⟩ : ∃ W, W = w.alloc (.cells #[.int .i64 who.node, .int .i64 who.epoch, .int .i64 who.seq] 34) := ⟨_, rfl⟩
  have HB : Hid (Below w.heap.size w wa) := Lib.hid (by rw [hwa]; exact below_alloc _ _)
  go_enter Try.func13, Try.ntmps13
  go_upto_region 1 with (fail)
  rw [← hwa]
  clear hwa
  go_wp2_with fail
  refine (HL.out _ wa).mono ?_
  rintro e w2 ⟨rfl, rfl⟩
  go_wp2_with fail
  go_returns
  exact ⟨rfl, HB.out⟩
theorem Expire1_any (s : Sv) (now : Int) {pb : Nat} {w : World} (hp : Cells w pb 3 [.int .i64 now]) :
    Calls Try.prog 25 #[.agg #[.int .i64 s.tid.node, .int .i64 s.tid.epoch, .int .i64 s.tid.seq, .int .i64 s.til], .pointer (some ⟨pb, 0, none⟩)] w fun e w' => e = .returned (.bool (byTime now s)) ∧ Below w.heap.size w w' := by
  obtain ⟨wa, hwa⟩ : ∃ W, W = w.alloc (.cells #[.int .i64 s.tid.node, .int .i64 s.tid.epoch, .int .i64 s.tid.seq, .int .i64 s.til] 48) := ⟨_, rfl⟩
  have hba : Below w.heap.size w wa := by rw [hwa]; exact below_alloc _ _
  have hca : Cells wa w.heap.size 48 [.int .i64 s.tid.node, .int .i64 s.tid.epoch, .int .i64 s.tid.seq, .int .i64 s.til] := by rw [hwa]; exact cells_new _ _ _ _ rfl
  have y0 := hca.cell (j := 0) rfl
  have y1 := hca.cell (j := 1) rfl
  have y2 := hca.cell (j := 2) rfl
  have y3 := hca.cell (j := 3) rfl
  have hpa := hp.later hba
  have z0 := hpa.cell (j := 0) rfl
  have HB := Lib.hid hba
  unfold byTime
  obtain ⟨an, han⟩ : ∃ X, decide (s.til ≤ now) = X := ⟨_, rfl⟩
  have e1 := han
  rw [han]
  clear hba hca hp hpa han
  go_enter Try.func25, Try.ntmps25
  go_upto_region 1 with (fail)
  rw [← hwa]
  clear hwa
  go_wp2_with fail
  go_returns
  exact ⟨rfl, HB.out⟩
set_option maxHeartbeats 2000000 in
theorem letGoExpire_any (h : Tb B w tb g T) {pb : Nat} (now : Int) (hp : Cells w pb 3 [.int .i64 now]) (hpg : pb ≠ g) :
    Calls Try.prog 23 #[.pointer (some ⟨tb, 0, none⟩), .func (.func 25) #[] #[.pointer (some ⟨pb, 0, none⟩)]] w fun e w' => ∃ A n c, e = .returned (.slice A n c) ∧ OwnI w.heap.size w' (.slice A n c) (goneT (byTime now) 0 T) ∧ Tb B w' tb g (dropT (byTime now) T) ∧ Only (fun j => j = g) w w' := by
  have HP : Hid (∀ wr, Only (fun j => j = g) w wr → Cells wr pb 3 [.int .i64 now]) := Lib.hid fun wr ho => cells_only hp ho hpg
  have HGL : Hid (g < w.heap.size ∧ tb < w.heap.size ∧ tb ≠ g) := Lib.hid ⟨h.glt.2, h.box.lt, fun e => h.far e.symm⟩
  have h0 : Hid (Tb B w tb g (midT (byTime now) T 0)) := Lib.hid (by rw [midT_zero]; exact h)
  have c0 := h.box.cell (j := 0) rfl
  obtain ⟨P, hP⟩ : ∃ P : Sv → Bool, P = byTime now := ⟨_, rfl⟩
  have HQ : Hid (∀ (wi : World) (s : Sv), Only (fun j => j = g) w wi → Calls Try.prog 25 #[.agg #[.int .i64 s.tid.node, .int .i64 s.tid.epoch, .int .i64 s.tid.seq, .int .i64 s.til], .pointer (some ⟨pb, 0, none⟩)] wi fun e w' => e = .returned (.bool (P s)) ∧ Below wi.heap.size wi w') := Lib.hid fun wi s ho => by rw [hP]; exact Expire1_any s now (HP.out wi ho)
  rw [← hP] at h0 ⊢
  obtain ⟨m, hm⟩ : ∃ m, T.length = m := ⟨_, rfl⟩
  rw [hm] at c0
  have HM := Lib.hid hm
  have hm16 : m ≤ 16 := by rw [← hm]; exact h.ok.len
  clear h hp hpg hm hP HP
  go_enter Try.func23, Try.ntmps23
  go_wp2_with fail
  clear c0
  go_loopw [5, 6, 7, 15] (fun a _ _ i wr => ∃ (k : Nat) (A : Option Addr) (n c : Nat), k ≤ m ∧ i = .int .i64 (k : Int) ∧ a = .slice A n c ∧ Hid (Tb B wr tb g (midT P T k)) ∧ Hid (OwnI w.heap.size wr (.slice A n c) (goneT P 0 (T.take k))) ∧ Hid (Only (fun j => j = g) w wr)) (fun _ _ _ i _ => m - (intOf i).toNat)
  case atStart => exact ⟨0, none, 0, 0, Nat.zero_le _, rfl, rfl, h0, Lib.hid (OwnG.nil _ _ _ _ _), Lib.hid (Only.of_below (Below.refl _ _))⟩
  case round =>
    clear h0
    obtain ⟨k, A, n, c, hk, rfl, rfl, HT, HV, HO⟩ := hrel
    by_cases hlt : k < m
    · have hkT : k < T.length := by rw [HM.out]; exact hlt
      have hkm : k < (midT P T k).length := by rw [midT_len]; exact hkT
      have hel := HT.out.elem hkm
      rw [midT_at P hkT] at hel
      have hgm := goneT_more P hkT
      have HSM := Lib.hid (fun e : (T[k].held && P T[k]) = false => midT_same P hkT e)
      have HNX := Lib.hid (midT_next P hkT)
      have HLEN : Hid ((goneT P 0 (T.take k)).length ≤ 16) := Lib.hid (Nat.le_trans (goneT_len ..) (by rw [List.length_take]; omega))
      obtain ⟨s, hs⟩ : ∃ s, T[k] = s := ⟨_, rfl⟩
      rw [hs] at hel hgm HSM HNX
      have HGM := Lib.hid hgm
      have HKM := Lib.hid hkm
      have x0 : wr.cell? ⟨g, k * 5, none⟩ = _ := hel.cell (j := 0) rfl
      have x1 := hel.cell (j := 1) rfl
      have x2 := hel.cell (j := 2) rfl
      have x3 := hel.cell (j := 3) rfl
      have x4 := hel.cell (j := 4) rfl
      obtain ⟨wb, hwb⟩ : ∃ W, W = wr.alloc (.cells #[.int .i64 s.tid.node, .int .i64 s.tid.epoch, .int .i64 s.tid.seq, .int .i64 s.til, .bool s.held] 66) := ⟨_, rfl⟩
      have hbb : Below wr.heap.size wr wb := by rw [hwb]; exact below_alloc _ _
      have hcb : Cells wb wr.heap.size 66 s.vals := by rw [hwb]; exact cells_new _ _ _ _ rfl
      have y0 := hcb.cell (j := 0) rfl
      have y1 := hcb.cell (j := 1) rfl
      have y2 := hcb.cell (j := 2) rfl
      have y3 := hcb.cell (j := 3) rfl
      have y4 := hcb.cell (j := 4) rfl
      have HTB := Lib.hid (HT.out.later hbb)
      have HVB := Lib.hid (HV.out.later hbb)
      have HOB : Hid (Only (fun j => j = g) w wb) := Lib.hid (HO.out.trans (Only.of_below hbb) fun _ _ e => e)
      have HCL := Lib.hid (HQ.out wb s HOB.out)
      clear hkT hkm hel hgm hs hbb hcb HT HV HO
      go_upto_region 7 with (fail)
      rw [← hwb]
      clear hwb x0 x1 x2 x3 x4
      obtain ⟨sh, hsh⟩ : ∃ b, s.held = b := ⟨_, rfl⟩
      have hS := hsh
      rw [hsh] at y4
      have HSH := Lib.hid hsh
      clear hS hsh
      cases sh with
      | false =>
        have HT2 : Hid (Tb B wb tb g (midT P T (k + 1))) := Lib.hid (by rw [HSM.out (by rw [HSH.out]; rfl)]; exact HTB.out)
        have HV2 : Hid (OwnI w.heap.size wb (.slice A n c) (goneT P 0 (T.take (k + 1)))) := Lib.hid (by rw [HGM.out, HSH.out, Bool.false_and, if_neg Bool.false_ne_true, List.append_nil]; exact HVB.out)
        clear HCL HTB HVB
        go_wp2_with fail
        go_roundw
        case rel => exact ⟨k + 1, A, n, c, by omega, by go_num, rfl, HT2, HV2, HOB⟩
        case measure => simp [intOf]; omega
      | true =>
        obtain ⟨ps, hps⟩ : ∃ b, P s = b := ⟨_, rfl⟩
        rw [hps] at HCL
        have HPS := Lib.hid hps
        clear hps
        go_wp2_with fail
        refine HCL.out.mono ?_
        rintro e w2 ⟨rfl, hb2⟩
        have HT2 := Lib.hid (HTB.out.later hb2)
        have HV2 := Lib.hid (HVB.out.later hb2)
        have HO2 : Hid (Only (fun j => j = g) w w2) := Lib.hid (HOB.out.trans (Only.of_below hb2) fun _ _ e => e)
        clear hb2 HCL HTB HVB HOB y0 y1 y2 y3 y4
        cases ps with
        | false =>
          have HT3 : Hid (Tb B w2 tb g (midT P T (k + 1))) := Lib.hid (by rw [HSM.out (by rw [HSH.out, HPS.out]; rfl)]; exact HT2.out)
          have HV3 : Hid (OwnI w.heap.size w2 (.slice A n c) (goneT P 0 (T.take (k + 1)))) := Lib.hid (by rw [HGM.out, HSH.out, HPS.out, if_neg (by decide), List.append_nil]; exact HV2.out)
          clear HT2 HV2
          go_wp2_with fail
          go_roundw
          case rel => exact ⟨k + 1, A, n, c, by omega, by go_num, rfl, HT3, HV3, HO2⟩
          case measure => simp [intOf]; omega
        | true =>
          have hdr : dropS P s = sv0 := by
            unfold dropS
            rw [HSH.out, HPS.out]
            rfl
          have hT2 := HT2.out
          have c0 := hT2.box.cell (j := 0) rfl
          rw [midT_len, HM.out] at c0
          have hel := hT2.elem HKM.out
          have x0 : w2.cell? ⟨g, k * 5, none⟩ = _ := hel.cell (j := 0) rfl
          have x1 := hel.cell (j := 1) rfl
          have x2 := hel.cell (j := 2) rfl
          have x3 := hel.cell (j := 3) rfl
          have x4 := hel.cell (j := 4) rfl
          have f0 : w2.frozen? ⟨g, k * 5, none⟩ = false := hel.frozen (j := 0) (by simp [Sv.vals])
          have f1 := hel.frozen (j := 1) (by simp [Sv.vals])
          have f2 := hel.frozen (j := 2) (by simp [Sv.vals])
          have f3 := hel.frozen (j := 3) (by simp [Sv.vals])
          have f4 := hel.frozen (j := 4) (by simp [Sv.vals])
          have hput := hT2.put HKM.out sv0 fun _ => rfl
          rw [← hdr, ← HNX.out, hdr] at hput
          have ho3 := only_sets5 w2 g (k * 5) sv0
          obtain ⟨w3, hw3⟩ : ∃ W, sets5 w2 g (k * 5) sv0 = W := ⟨_, rfl⟩
          have HW3 := Lib.hid hw3
          rw [hw3] at hput ho3
          have hv3 := HV2.out.only ho3 fun j e e2 => by
            have h1 := (HV2.out.lt e).1
            have h2 := HGL.out.1
            omega
          have hon3 := HO2.out.trans ho3 fun _ _ e => e
          obtain ⟨A', n', c', w4, hrun, hrow, hon, hnb⟩ := OwnG.iapp hv3 (k : Int) hon3.size (by have := HLEN.out; omega)
          have hlo : ∀ j, some j = blk A → w.heap.size ≤ j := fun j e => (HV2.out.lt (by rw [own_blk]; exact e.symm)).1
          have HT4 : Hid (Tb B w4 tb g (midT P T (k + 1))) := Lib.hid (hput.only hon (fun e => by have h1 := hlo _ e; have h2 := HGL.out.2.1; omega) fun e => by have h1 := hlo _ e; have h2 := HGL.out.1; omega)
          have HV4 : Hid (OwnI w.heap.size w4 (.slice A' n' c') (goneT P 0 (T.take (k + 1)))) := Lib.hid (by rw [HGM.out, HSH.out, HPS.out, if_pos (by decide)]; exact hrow)
          have HO4 : Hid (Only (fun j => j = g) w w4) := Lib.hid (hon3.trans2 hon fun j e => hlo j e)
          have HRUN := Lib.hid hrun
          clear hT2 hel hput ho3 hw3 hv3 hon3 hrun hrow hon hnb hlo hdr HT2 HV2 HO2
          go_upto_region 9 with (fail)
          rw [sv0_sets, HW3.out]
          clear HW3 x0 x1 x2 x3 x4 f0 f1 f2 f3 f4 c0
          go_wp2_with (at_builtin
                       refine Lib.wpList_append_run (w3.alloc (.cells #[.int .i64 (k : Int)] 3)) rfl (.tmp 35) (.tmp 37) 35 35 rfl (.slice A n c) (.slice (some ⟨w3.heap.size, 0, none⟩) 1 1) rfl rfl _ _ HRUN.out ?_)
          go_roundw
          case rel => exact ⟨k + 1, A', n', c', by omega, by go_num, rfl, HT4, HV4, HO4⟩
          case measure => simp [intOf]; omega
    · obtain rfl : k = m := by omega
      have HF : Hid (Tb B wr tb g (dropT P T)) := Lib.hid (by have h1 := HT.out; rwa [midT_end P (Nat.le_of_eq HM.out)] at h1)
      have HG : Hid (OwnI w.heap.size wr (.slice A n c) (goneT P 0 T)) := Lib.hid (by have h1 := HV.out; rwa [List.take_of_length_le (Nat.le_of_eq HM.out)] at h1)
      go_wp2_with fail
      go_returns
      exact ⟨_, _, _, rfl, HG.out, HF.out, HO.out⟩
theorem Expire_any (h : Tb B w tb g T) (now : Int) :
    Calls Try.prog 15 #[.pointer (some ⟨tb, 0, none⟩), .int .i64 now] w fun e w' => ∃ A n c, e = .returned (.slice A n c) ∧ OwnI w.heap.size w' (.slice A n c) (goneT (byTime now) 0 T) ∧ Tb B w' tb g (dropT (byTime now) T) ∧ Only (fun j => j = g) w w' := by
  obtain ⟨wa, hwa⟩ : ∃ W, W = w.alloc (.cells #[.int .i64 now] 3) := ⟨_, rfl⟩
  have hba : Below w.heap.size w wa := by rw [hwa]; exact below_alloc _ _
  have hca : Cells wa w.heap.size 3 [.int .i64 now] := by rw [hwa]; exact cells_new _ _ _ _ rfl
  have HL := Lib.hid (letGoExpire_any (h.later hba) now hca (fun e => by have := h.glt.2; omega))
  have HB := Lib.hid hba
  clear h hba hca
  go_enter Try.func15, Try.ntmps15
  go_upto_region 1 with (fail)
  rw [← hwa]
  clear hwa
  go_wp2_with fail
  refine HL.out.mono ?_
  rintro e w2 ⟨A, n, c, rfl, hrow, ht, ho⟩
  have HR := Lib.hid (And.intro hrow (And.intro ht ho))
  clear hrow ht ho HL
  go_wp2_with fail
  go_returns
  exact ⟨_, _, _, rfl, OwnG.up HB.out.size HR.out.1, HR.out.2.1, (Only.of_below HB.out).trans HR.out.2.2 fun _ _ e => e⟩
theorem Expire_nil (now : Int) (w : World) : Calls Try.prog 15 #[.pointer none, .int .i64 now] w fun e w' => e = .returned (.slice none 0 0) ∧ Below w.heap.size w w' := by
  have HL : Hid (∀ (v : Value) (wi : World), Calls Try.prog 23 #[.pointer none, v] wi fun e w' => e = .returned (.slice none 0 0) ∧ w' = wi) := Lib.hid fun v wi => by
    go_enter Try.func23, Try.ntmps23
    go_wp2_with fail
    go_returns
    exact ⟨rfl, rfl⟩
  obtain ⟨wa, hwa⟩ : ∃ W, W = w.alloc (.cells #[.int .i64 now] 3) := ⟨_, rfl⟩
  have HB : Hid (Below w.heap.size w wa) := Lib.hid (by rw [hwa]; exact below_alloc _ _)
  go_enter Try.func15, Try.ntmps15
  go_upto_region 1 with (fail)
  rw [← hwa]
  clear hwa
  go_wp2_with fail
  refine (HL.out _ wa).mono ?_
  rintro e w2 ⟨rfl, rfl⟩
  go_wp2_with fail
  go_returns
  exact ⟨rfl, HB.out⟩
end
end Go.Proofs.Ytiobblmagjbhjaa.Lea
