/-
  Layer 18, the document's table: Hold. Conditions: none.
-/
import Derived.Test.YtiobblmagjbhjaaLeaOne
namespace Go.Proofs.Ytiobblmagjbhjaa.Lea
set_option maxRecDepth 100000
open Go.RowKit Go.Deep Go.Proofs.Ytiobblmagjbhjaa.Mem

theorem wst_12 (T : List Sv) (who : Lt) : ∀ l : List Int, (l.map (oneE T who)).foldl wst 0 = 0 ∨ (l.map (oneE T who)).foldl wst 0 = 1 ∨ (l.map (oneE T who)).foldl wst 0 = 12 := fun l => by
  rw [worst_of]
  unfold errT
  cases hasT T.length l <;> cases mayL T who l <;> simp
theorem oneE_12 (T : List Sv) (who : Lt) (c : Int) : oneE T who c = 0 ∨ oneE T who c = 1 ∨ oneE T who c = 12 := by
  unfold oneE
  cases inT T.length c <;> cases mayS who (ofT T c) <;> simp
theorem wst_more (T : List Sv) (who : Lt) (l : List Int) (c : Int) : ((l ++ [c]).map (oneE T who)).foldl wst 0 = wst ((l.map (oneE T who)).foldl wst 0) (oneE T who c) := by
  rw [List.map_append, List.foldl_append]
  rfl
section
variable {B rb ac : Nat} {w : World} {T : List Sv} {A : Option Addr}
set_option maxHeartbeats 4000000 in
theorem RHold_any (h : LrAt B w rb (docR T) A ac) (hok : Tok T) (who : Lt) (u : Int) {L : Option Addr} {l : List Int} {lc : Nat} (hr : IRow w L l) (hg : l ≠ [] → ∀ k, blk L = some k → ¬ lfoot rb A k) (hn : l.length ≤ 1000) (hB : B ≤ w.heap.size) :
    Calls Try.prog 11 #[.pointer (some ⟨rb, 0, none⟩), .agg #[.int .i64 who.node, .int .i64 who.epoch, .int .i64 who.seq], .int .i64 u, .slice L l.length lc] w fun e w' => e = .returned (.int .i64 (errT T who l)) ∧ LrStep B rb A w (docR (holdT T who u l)) w' := by
  obtain ⟨wa, hwa⟩ : ∃ W, W = w.alloc (.cells #[.int .i64 who.node, .int .i64 who.epoch, .int .i64 who.seq] 34) := ⟨_, rfl⟩
  have hba : Below w.heap.size w wa := by rw [hwa]; exact below_alloc _ _
  have hca : Cells wa w.heap.size 34 (lt3 who) := by rw [hwa]; exact cells_new _ _ _ _ rfl
  have HIR : Hid (∀ wr, Only (lfoot rb A) wa wr → ∀ j (hj : j < l.length), ∃ b off, L = some ⟨b, off, none⟩ ∧ ∀ wi, Below wr.heap.size wr wi → wi.cell? ⟨b, off + j, none⟩ = some (.int .i64 l[j])) := Lib.hid fun wr ho j hj => by
    obtain ⟨b, off, e, hc⟩ := (hr.later hba) j hj
    refine ⟨b, off, e, fun wi hb => ?_⟩
    have hne : ¬ lfoot rb A b := hg (List.ne_nil_of_length_pos (by omega)) b (by rw [e]; rfl)
    have hlt := block_of_cell hc
    have e2 := ho.block b hlt hne
    have h2 : wr.cell? ⟨b, off + j, none⟩ = some (.int .i64 l[j]) := by
      unfold World.cell? at hc ⊢
      rw [e2]
      exact hc
    exact (hb.cell (block_of_cell h2)).trans h2
  obtain ⟨n, hnn⟩ : ∃ n, l.length = n := ⟨_, rfl⟩
  have HN := Lib.hid hnn
  rw [hnn] at hn ⊢
  have HRA := Lib.hid (h.later hba)
  have HH := Lib.hid h
  have HB := Lib.hid hba
  have HOK := Lib.hid hok
  have HBW0 := Lib.hid hB
  have HFT : Hid (∀ j, lfoot rb A j → j < w.heap.size) := Lib.hid fun j e => (h.lt e).2
  obtain ⟨xb, hxb⟩ : ∃ x, w.heap.size = x := ⟨_, rfl⟩
  have HXA : Hid (Cells wa xb 34 (lt3 who)) := Lib.hid (by rw [← hxb]; exact hca)
  have HXG : Hid (∀ j, lfoot rb A j → j ≠ xb) := Lib.hid fun j e e2 => by have := HFT.out j e; omega
  have HBA : Hid (∀ wr, Below wa.heap.size wa wr → Below w.heap.size w wr) := Lib.hid fun wr hb => hba.trans (hb.mono hba.size)
  obtain ⟨er, her⟩ : ∃ x, errT T who l = x := ⟨_, rfl⟩
  have HER := Lib.hid her
  rw [her]
  clear h hba hca hr hg hok hB hnn her
  go_enter Try.func11, Try.ntmps11
  go_upto_region 1 with (fail)
  rw [← hwa]
  clear hwa
  try rw [hxb]
  clear hxb
  go_wp2_with fail
  go_loopw [9, 10, 11] (fun a i _ wr => ∃ (j : Nat) (wz : Int), j ≤ n ∧ i = .int .i64 (j : Int) ∧ a = .int .i64 wz ∧ Hid (((l.take j).map (oneE T who)).foldl wst 0 = wz) ∧ Hid (Below wa.heap.size wa wr)) (fun _ i _ _ => n - (intOf i).toNat)
  case atStart => exact ⟨0, 0, Nat.zero_le _, rfl, rfl, Lib.hid rfl, Lib.hid (Below.refl _ _)⟩
  case round =>
    obtain ⟨jj, wz, hj, rfl, rfl, HWZ, HBR⟩ := hrel
    by_cases hjn : jj < n
    · have hjl : jj < l.length := by rw [HN.out]; exact hjn
      obtain ⟨b, off, rfl, hY⟩ := HIR.out wr (Only.of_below HBR.out) jj hjl
      have htk : l.take (jj + 1) = l.take jj ++ [l[jj]] := List.take_succ_eq_append_getElem hjl
      obtain ⟨y, hy⟩ : ∃ y, l[jj] = y := ⟨_, rfl⟩
      rw [hy] at hY htk
      have HY := Lib.hid hY
      have HMO : Hid (((l.take (jj + 1)).map (oneE T who)).foldl wst 0 = wst wz (oneE T who y)) := Lib.hid (by rw [htk, wst_more, HWZ.out])
      have HXB : Hid (∀ wi, Below wr.heap.size wr wi → Cells wi xb 34 (lt3 who)) := Lib.hid fun wi hb => (HXA.out.later HBR.out).later hb
      have HASK := Lib.hid fun (wi : World) (hb : Below wr.heap.size wr wi) => ROne_ask ((HRA.out.later HBR.out).later hb) who u y
      have hw12 := wst_12 T who (l.take jj)
      rw [HWZ.out] at hw12
      have he12 := oneE_12 T who y
      obtain ⟨ev, hev⟩ : ∃ e, oneE T who y = e := ⟨_, rfl⟩
      rw [hev] at HASK he12 HMO
      have HJN : Hid (jj < n) := Lib.hid hjn
      clear hjl hY htk hy hev HWZ
      go_upto_region 5 with (fail)
      refine Reg.region_inv (by kernel_rfl) (fun i => ([some (.pointer (some ⟨rb, 0, none⟩)), some (.agg #[.int .i64 who.node, .int .i64 who.epoch, .int .i64 who.seq]), some (.int .i64 u), some (.slice (some ⟨b, off, none⟩) n lc), some (.int .i64 (jj : Int)), some (.pointer (some ⟨b, off + jj, none⟩)), some (.int .i64 y), some (.int .i64 ev), some (.int .i64 ev)] : List (Option Value)).getD i none) (fun D V W => Below wr.heap.size wr W) (fun V => [(some 19, V 0), (some 20, V 1), (some 21, V 2), (some 22, V 3), (some 23, V 4), (some 24, V 5), (some 25, V 6), (some 26, V 7), (some 11, V 8)]) (by kernel_rfl) (by kernel_rfl) (fun V => rfl) ?_ ?_ ?_
      · intro V
        exact (Below.refl _ _).drew
      · intro i o ho
        have hi : i < 9 := (Array.getElem?_eq_some_iff.1 ho).1
        rcases i with _ | _ | _ | _ | _ | _ | _ | _ | _ | i
        rotate_right
        · omega
        all_goals obtain rfl := Option.some.inj ho
        all_goals intro D V ρ wi hE hI hDi hT hF hs hd hk
        · have e0 : ρ (.tmp 0) = .pointer (some ⟨rb, 0, none⟩) := hs 0; clear hT hF hk
          exact Reg.Gives.value (v := .pointer (some ⟨rb, 0, none⟩)) (w' := wi) (by go_simp) ⟨fun x h => Option.some.inj h, hI⟩
        · have e5 : ρ (.tmp 5) = .pointer (some ⟨xb, 0, none⟩) := hs 5; clear hT hF; have hL : Below wr.heap.size wr wi := hI; have hq := HXB.out wi hL; have q0 := hq.cell (j := 0) rfl; have q1 := hq.cell (j := 1) rfl; have q2 := hq.cell (j := 2) rfl
          exact Reg.Gives.value (v := .agg #[.int .i64 who.node, .int .i64 who.epoch, .int .i64 who.seq]) (w' := wi) (by go_simp) ⟨fun x h => Option.some.inj h, hI⟩
        · have e2 : ρ (.tmp 2) = .int .i64 u := hs 2; clear hT hF hk
          exact Reg.Gives.value (v := .int .i64 u) (w' := wi) (by go_simp) ⟨fun x h => Option.some.inj h, hI⟩
        · have e3 : ρ (.tmp 3) = .slice (some ⟨b, off, none⟩) n lc := hs 3; clear hT hF hk
          exact Reg.Gives.value (v := .slice (some ⟨b, off, none⟩) n lc) (w' := wi) (by go_simp) ⟨fun x h => Option.some.inj h, hI⟩
        · have e10 : ρ (.tmp 10) = .int .i64 (jj : Int) := hs 10; clear hT hF hk
          exact Reg.Gives.value (v := .int .i64 (jj : Int)) (w' := wi) (by go_simp) ⟨fun x h => Option.some.inj h, hI⟩
        · have e22 : ρ (.tmp 22) = .slice (some ⟨b, off, none⟩) n lc := (hd 3 22).trans (hk 3 _ rfl); have e23 : ρ (.tmp 23) = .int .i64 (jj : Int) := (hd 4 23).trans (hk 4 _ rfl); clear hT hF
          have z1 : (0 : Int) ≤ (jj : Int) := by omega
          have z2 : (jj : Int) < (n : Int) := by have := HJN.out; omega
          have z3 : jj < n := HJN.out
          exact Reg.Gives.value (v := .pointer (some ⟨b, off + jj, none⟩)) (w' := wi) (by go_simp) ⟨fun x h => Option.some.inj h, hI⟩
        · have e24 : ρ (.tmp 24) = .pointer (some ⟨b, off + jj, none⟩) := (hd 5 24).trans (hk 5 _ rfl); clear hT hF; have hL : Below wr.heap.size wr wi := hI; have y0 := HY.out wi hL
          exact Reg.Gives.value (v := .int .i64 y) (w' := wi) (by go_simp) ⟨fun x h => Option.some.inj h, hI⟩
        · have e19 : ρ (.tmp 19) = .pointer (some ⟨rb, 0, none⟩) := (hd 0 19).trans (hk 0 _ rfl); have e20 : ρ (.tmp 20) = .agg #[.int .i64 who.node, .int .i64 who.epoch, .int .i64 who.seq] := (hd 1 20).trans (hk 1 _ rfl); have e21 : ρ (.tmp 21) = .int .i64 u := (hd 2 21).trans (hk 2 _ rfl); have e25 : ρ (.tmp 25) = .int .i64 y := (hd 6 25).trans (hk 6 _ rfl); have hc := hE.const
          have hf := hE.func; clear hT hF
          refine Reg.Gives.call (f := 16) (args := #[.pointer (some ⟨rb, 0, none⟩), .agg #[.int .i64 who.node, .int .i64 who.epoch, .int .i64 who.seq], .int .i64 u, .int .i64 y, .bool false]) (w' := wi) (by go_simp) ?_
          refine (HASK.out wi hI).mono ?_
          rintro e w'' ⟨rfl, hb⟩
          exact ⟨_, rfl, fun x h => Option.some.inj h, hI.trans (hb.mono hI.size)⟩
        · have e26 : ρ (.tmp 26) = .int .i64 ev := (hd 7 26).trans (hk 7 _ rfl); clear hT hF hk
          exact Reg.Gives.value (v := .int .i64 ev) (w' := wi) (by go_simp) ⟨fun x h => Option.some.inj h, hI⟩
      · intro V wf hk hI
        have hV8 : V 8 = .int .i64 ev := hk 8 (by show _ < 9; decide) _ rfl
        simp only [Reg.putsO, List.foldl_cons, List.foldl_nil, Act.put, List.setIfInBounds_toArray, List.set_cons_succ, List.set_cons_zero, hV8]
        replace hI : Below wr.heap.size wr wf := hI
        clear hk hV8
        have HBF : Hid (Below wa.heap.size wa wf) := Lib.hid (HBR.out.trans (hI.mono HBR.out.size))
        clear hI
        have HMO2 := HMO.out
        unfold wst at HMO2
        by_cases h1 : ev = 1
        · subst h1
          rw [if_pos (Or.inl rfl)] at HMO2
          have HM := Lib.hid HMO2
          clear HMO2 hw12 he12
          go_wp2_with fail
          go_roundw
          case rel => exact ⟨jj + 1, 1, by omega, by go_num, rfl, HM, HBF⟩
          case measure => simp [intOf]; omega
        · have e1 : (ev == 1) = false := by simpa using h1
          by_cases h2 : wz = 0
          · subst h2
            rw [if_pos (Or.inr rfl)] at HMO2
            have HM := Lib.hid HMO2
            clear HMO2 hw12 he12 h1
            go_wp2_with fail
            go_roundw
            case rel => exact ⟨jj + 1, ev, by omega, by go_num, rfl, HM, HBF⟩
            case measure => simp [intOf]; omega
          · have e2 : (wz == 0) = false := by simpa using h2
            rw [if_neg (by omega)] at HMO2
            have HM := Lib.hid HMO2
            clear HMO2 hw12 he12 h1 h2
            go_wp2_with fail
            go_roundw
            case rel => exact ⟨jj + 1, wz, by omega, by go_num, rfl, HM, HBF⟩
            case measure => simp [intOf]; omega
    · obtain rfl : n = jj := by omega
      have hwz : wz = er := by
        have h3 := HWZ.out
        rw [List.take_of_length_le (Nat.le_of_eq HN.out), worst_of, HER.out] at h3
        exact h3.symm
      subst hwz
      clear HWZ hjn hj
      by_cases h0 : wz = 0
      · subst h0
        have HHO : Hid (holdT T who u l = setsT who u T l ∧ hasT T.length l = true ∧ mayL T who l = true) := Lib.hid (by
          have h3 := HER.out
          refine ⟨by unfold holdT; rw [if_pos h3], ?_⟩
          unfold errT at h3
          cases ha : hasT T.length l with
          | false => rw [ha, if_neg Bool.false_ne_true] at h3; cases h3
          | true =>
            cases hm : mayL T who l with
            | false => rw [ha, hm, if_pos rfl, if_neg Bool.false_ne_true] at h3; cases h3
            | true => exact ⟨rfl, rfl⟩)
        have HS0 : Hid (LrStep B rb A wa (docR (setsT who u T (l.take 0))) wr) := Lib.hid (LxStep.same HRA.out HBR.out)
        have HX0 : Hid (Only (lfoot rb A) wa wr) := Lib.hid (Only.of_below HBR.out)
        have HZ0 : Hid (B ≤ wr.heap.size) := Lib.hid (Nat.le_trans HBW0.out (HBA.out wr HBR.out).size)
        clear HBR
        go_wp2_with fail
        go_loopw [12] (fun i wr => ∃ j : Nat, j ≤ n ∧ i = .int .i64 (j : Int) ∧ Hid (LrStep B rb A wa (docR (setsT who u T (l.take j))) wr) ∧ Hid (Cells wr xb 34 (lt3 who)) ∧ Hid (B ≤ wr.heap.size)) (fun i _ => n - (intOf i).toNat)
        case atStart => exact ⟨0, Nat.zero_le _, rfl, HS0, Lib.hid (cells_only HXA.out HX0.out fun e => HXG.out _ e rfl), HZ0⟩
        case round =>
          clear HS0 HX0 HZ0
          obtain ⟨jj, hj, rfl, HSR, HXR, HZR⟩ := hrel
          by_cases hjn : jj < n
          · have hjl : jj < l.length := by rw [HN.out]; exact hjn
            have hS := HSR.out
            obtain ⟨A1, c1, k1, k2, k3⟩ := hS
            obtain ⟨b, off, rfl, hY⟩ := HIR.out wr k2 jj hjl
            have htk : l.take (jj + 1) = l.take jj ++ [l[jj]] := List.take_succ_eq_append_getElem hjl
            have hin : inT T.length l[jj] = true := List.all_eq_true.1 HHO.out.2.1 _ (List.getElem_mem hjl)
            have hms := List.all_eq_true.1 (may_sets (u := u) (l.take jj) HHO.out.2.2) _ (List.getElem_mem hjl)
            obtain ⟨y, hy⟩ : ∃ y, l[jj] = y := ⟨_, rfl⟩
            rw [hy] at hY htk hin hms
            obtain ⟨T1, hT1⟩ : ∃ T1, setsT who u T (l.take jj) = T1 := ⟨_, rfl⟩
            have hl1 : T1.length = T.length := by rw [← hT1]; exact setsT_len ..
            have hok1 : Tok T1 := by rw [← hT1]; exact Tok.sets _ HOK.out
            rw [hT1] at k1 hms
            obtain ⟨R2, hR2⟩ : ∃ R2, docR (set1 who u T1 y) = R2 := ⟨_, rfl⟩
            have HDO : Hid (∀ wi, Below wr.heap.size wr wi → Calls Try.prog 16 #[.pointer (some ⟨rb, 0, none⟩), .agg #[.int .i64 who.node, .int .i64 who.epoch, .int .i64 who.seq], .int .i64 u, .int .i64 y, .bool true] wi fun e w' => e = .returned (.int .i64 0) ∧ LrStep B rb A1 wr R2 w') := Lib.hid fun wi hb => by
              obtain ⟨cc, rfl, hcc⟩ := inT_nat hin
              exact (ROne_do (k1.later hb) hok1 who u (cc := cc) (by rw [hl1]; exact hcc) hms (Nat.le_trans HZR.out hb.size)).mono fun e w' z => ⟨z.1, by rw [← hR2]; exact LxStep.before hb z.2⟩
            have HNX : Hid (docR (setsT who u T (l.take (jj + 1))) = R2) := Lib.hid (by rw [htk, setsT_more, hT1]; exact hR2)
            have HY := Lib.hid hY
            have HXB : Hid (∀ wi, Below wr.heap.size wr wi → Cells wi xb 34 (lt3 who)) := Lib.hid fun wi hb => HXR.out.later hb
            have HK1 := Lib.hid k1
            have HK2 := Lib.hid k2
            have HK3 := Lib.hid k3
            have HF1 : Hid (∀ j, lfoot rb A1 j → j ≠ xb) := Lib.hid fun j e e2 => by
              rcases e with e | e
              · exact HXG.out j (Or.inl e) e2
              · rcases k3 j e with e3 | e3
                · exact HXG.out j (Or.inr e3) e2
                · have := HXA.out.lt
                  omega
            have HJN : Hid (jj < n) := Lib.hid hjn
            clear hjl k1 k2 k3 hY htk hin hms hy hT1 hl1 hok1 hR2 HSR
            go_upto_region 13 with (fail)
            refine Reg.region_inv (by kernel_rfl) (fun i => ([some (.pointer (some ⟨rb, 0, none⟩)), some (.agg #[.int .i64 who.node, .int .i64 who.epoch, .int .i64 who.seq]), some (.int .i64 u), some (.slice (some ⟨b, off, none⟩) n lc), some (.int .i64 (jj : Int)), some (.pointer (some ⟨b, off + jj, none⟩)), some (.int .i64 y), some (.int .i64 0)] : List (Option Value)).getD i none) (fun D V W => (D 7 = false → Below wr.heap.size wr W) ∧ (D 7 = true → LrStep B rb A1 wr R2 W)) (fun V => [(some 43, V 0), (some 44, V 1), (some 45, V 2), (some 46, V 3), (some 47, V 4), (some 48, V 5), (some 49, V 6), (some 50, V 7)]) (by kernel_rfl) (by kernel_rfl) (fun V => rfl) ?_ ?_ ?_
            · intro V
              exact ⟨fun _ => (Below.refl _ _).drew, fun e => (by cases e)⟩
            · intro i o ho
              have hi : i < 8 := (Array.getElem?_eq_some_iff.1 ho).1
              rcases i with _ | _ | _ | _ | _ | _ | _ | _ | i
              rotate_right
              · omega
              all_goals obtain rfl := Option.some.inj ho
              all_goals intro D V ρ wi hE hI hDi hT hF hs hd hk
              · have e0 : ρ (.tmp 0) = .pointer (some ⟨rb, 0, none⟩) := hs 0; clear hT hF hk
                exact Reg.Gives.value (v := .pointer (some ⟨rb, 0, none⟩)) (w' := wi) (by go_simp) ⟨fun x h => Option.some.inj h, hI⟩
              · have e5 : ρ (.tmp 5) = .pointer (some ⟨xb, 0, none⟩) := hs 5; have hD7 : D 7 = false := hF 1 7; clear hT hF; have hL : Below wr.heap.size wr wi := hI.1 hD7; have hq := HXB.out wi hL; have q0 := hq.cell (j := 0) rfl; have q1 := hq.cell (j := 1) rfl; have q2 := hq.cell (j := 2) rfl
                exact Reg.Gives.value (v := .agg #[.int .i64 who.node, .int .i64 who.epoch, .int .i64 who.seq]) (w' := wi) (by go_simp) ⟨fun x h => Option.some.inj h, hI⟩
              · have e2 : ρ (.tmp 2) = .int .i64 u := hs 2; clear hT hF hk
                exact Reg.Gives.value (v := .int .i64 u) (w' := wi) (by go_simp) ⟨fun x h => Option.some.inj h, hI⟩
              · have e3 : ρ (.tmp 3) = .slice (some ⟨b, off, none⟩) n lc := hs 3; clear hT hF hk
                exact Reg.Gives.value (v := .slice (some ⟨b, off, none⟩) n lc) (w' := wi) (by go_simp) ⟨fun x h => Option.some.inj h, hI⟩
              · have e12 : ρ (.tmp 12) = .int .i64 (jj : Int) := hs 12; clear hT hF hk
                exact Reg.Gives.value (v := .int .i64 (jj : Int)) (w' := wi) (by go_simp) ⟨fun x h => Option.some.inj h, hI⟩
              · have e46 : ρ (.tmp 46) = .slice (some ⟨b, off, none⟩) n lc := (hd 3 46).trans (hk 3 _ rfl); have e47 : ρ (.tmp 47) = .int .i64 (jj : Int) := (hd 4 47).trans (hk 4 _ rfl); clear hT hF
                have z1 : (0 : Int) ≤ (jj : Int) := by omega
                have z2 : (jj : Int) < (n : Int) := by have := HJN.out; omega
                have z3 : jj < n := HJN.out
                exact Reg.Gives.value (v := .pointer (some ⟨b, off + jj, none⟩)) (w' := wi) (by go_simp) ⟨fun x h => Option.some.inj h, hI⟩
              · have e48 : ρ (.tmp 48) = .pointer (some ⟨b, off + jj, none⟩) := (hd 5 48).trans (hk 5 _ rfl); have hD7 : D 7 = false := hF 1 7; clear hT hF; have hL : Below wr.heap.size wr wi := hI.1 hD7; have y0 := HY.out wi hL
                exact Reg.Gives.value (v := .int .i64 y) (w' := wi) (by go_simp) ⟨fun x h => Option.some.inj h, hI⟩
              · have e43 : ρ (.tmp 43) = .pointer (some ⟨rb, 0, none⟩) := (hd 0 43).trans (hk 0 _ rfl); have e44 : ρ (.tmp 44) = .agg #[.int .i64 who.node, .int .i64 who.epoch, .int .i64 who.seq] := (hd 1 44).trans (hk 1 _ rfl); have e45 : ρ (.tmp 45) = .int .i64 u := (hd 2 45).trans (hk 2 _ rfl); have e49 : ρ (.tmp 49) = .int .i64 y := (hd 6 49).trans (hk 6 _ rfl); have hc := hE.const
                have hf := hE.func; have hD7 : D 7 = false := hDi; clear hT hF; have hL : Below wr.heap.size wr wi := hI.1 hD7
                refine Reg.Gives.call (f := 16) (args := #[.pointer (some ⟨rb, 0, none⟩), .agg #[.int .i64 who.node, .int .i64 who.epoch, .int .i64 who.seq], .int .i64 u, .int .i64 y, .bool true]) (w' := wi) (by go_simp) ?_
                refine (HDO.out wi hL).mono ?_
                rintro e w'' ⟨rfl, hn⟩
                exact ⟨_, rfl, fun x h => Option.some.inj h, by show (true = false → Below wr.heap.size wr w'') ∧ (true = true → LrStep B rb A1 wr R2 w''); exact ⟨fun e => (by cases e), fun _ => hn⟩⟩
            · intro V wf hk hI
              simp only [Reg.putsO, List.foldl_cons, List.foldl_nil, Act.put, List.setIfInBounds_toArray, List.set_cons_succ, List.set_cons_zero]
              replace hI : ((fun _ => true) 7 = false → Below wr.heap.size wr wf) ∧ ((fun _ => true) 7 = true → LrStep B rb A1 wr R2 wf) := hI
              clear hk
              have HS9 := Lib.hid (hI.2 rfl)
              clear hI
              have HSF : Hid (LrStep B rb A wa (docR (setsT who u T (l.take (jj + 1)))) wf) := Lib.hid (by rw [HNX.out]; exact LxStep.next HK2.out HK3.out HS9.out)
              have HXF : Hid (Cells wf xb 34 (lt3 who)) := Lib.hid (by obtain ⟨_, _, _, q2, _⟩ := HS9.out; exact cells_only HXR.out q2 fun e => HF1.out _ e rfl)
              have HZF : Hid (B ≤ wf.heap.size) := Lib.hid (by obtain ⟨_, _, _, q2, _⟩ := HS9.out; exact Nat.le_trans HZR.out q2.size)
              clear HS9
              go_wp2_with fail
              go_roundw
              case rel => exact ⟨jj + 1, by omega, by go_num, HSF, HXF, HZF⟩
              case measure => simp [intOf]; omega
          · have HSF : Hid (LrStep B rb A wa (docR (setsT who u T l)) wr) := Lib.hid (by have h3 := HSR.out; rwa [List.take_of_length_le (by rw [HN.out]; omega)] at h3)
            go_wp2_with fail
            go_returns
            exact ⟨rfl, by rw [HHO.out.1]; exact LxStep.before HB.out HSF.out⟩
      · have e0 : (wz == 0) = false := by simpa using h0
        have HHO : Hid (holdT T who u l = T) := Lib.hid (by unfold holdT; rw [HER.out, if_neg h0])
        clear h0
        go_wp2_with fail
        go_returns
        exact ⟨rfl, by rw [HHO.out]; exact LxStep.same HH.out (HBA.out wr HBR.out)⟩
end
end Go.Proofs.Ytiobblmagjbhjaa.Lea
