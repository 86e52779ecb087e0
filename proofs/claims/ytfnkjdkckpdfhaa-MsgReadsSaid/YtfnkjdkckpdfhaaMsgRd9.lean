/-
  Layer 10: the document reads a message, from some place of its code on. Conditions: none.
-/
import Derived.Test.YtfnkjdkckpdfhaaMsgRd8
namespace Go.Proofs.Ytfnkjdkckpdfhaa.Msg
set_option maxRecDepth 100000
open Go.RowKit Go.Proofs.Ytfnkjdkckpdfhaa.Mem Go.Proofs.Ytfnkjdkckpdfhaa.Item Go.Proofs.Ytfnkjdkckpdfhaa.Wire

/-- The numbers while they are kept aside. -/
def gotC (x : Rc) : List Value := [.int .i64 0, .int .i64 x.cell, .int .i64 x.node, .int .i64 x.num, .int .i64 x.hop, .int .i64 x.version, .int .i64 x.value]
theorem gotC_set (x : Rc) (f : Nat) (hf : f < 6) (n : Int) : (gotC x).set (f + 1) (.int .i64 n) = gotC (setN x f n) := by
  rcases lt6 hf with rfl | rfl | rfl | rfl | rfl | rfl <;> rfl
theorem rfSt.aside {w wr wq : World} {m g : Nat} {x : Rc} {s : ByteArray} {a : Nat} {b : Bool} (h : rfSt w m wr x s a b lay0) (h1 : x.items = []) (h2 : x.nodes = []) (ho : Only (fun k => k = g) wr wq) (hg : m < g) : rfSt w m wq x s a b lay0 := by
  have hgt := h.gt
  refine ⟨cells_only h.inn ho (by omega), h.foot.trans (ho.below h.foot.size fun k hk => by omega), h.gt, Nat.le_trans h.low ho.size, cells_only h.rcd ho (by omega), cells_only h.res ho (by omega), ?_, ?_, h.apart⟩
  · rw [h1]; exact World.ownsRow_nil _ _ _ _
  · rw [h2]; exact World.ownsRow_nil _ _ _ _
set_option maxHeartbeats 4000000 in
theorem refRead_any (s : ByteArray) (w : World) (hs : s.size ≤ 1000000) :
    Calls Try.prog 15 #[.string s] w fun e w' => (∃ y, e = .returned (.tuple #[(decR s).val y, .bool (dec s).isSome]) ∧ Has w' (decR s) y) ∧ Below w.heap.size w w' := by
  have HSZ := Lib.hid hs
  obtain ⟨k, hkn⟩ : ∃ k : Int, ((Wire.num s 1 : Nat) : Int) = k := ⟨_, rfl⟩
  have HKV : Hid (inV 0 s 0 false = k) := Lib.hid ((sim_kind s).1.trans hkn)
  have HSIM0 : Hid (Sim s (rcK k) (inA 0 s 0 false) (inB 0 s 0 false) (rcK k, rest s 1, brk s false 1)) := Lib.hid (by have := sim_start s; rw [hkn] at this; exact this)
  have HDK : Hid (¬ (1 ≤ k ∧ k ≤ 15) → dec s = none) := Lib.hid (fun h => dec_kind (s := s) (by rw [hkn]; exact h))
  have HD0 : Hid (1 ≤ k ∧ k ≤ 15 → dec0 s = e13 k (foldF (nlJ k 6) (rcK k, rest s 1, brk s false 1))) := Lib.hid (fun hk => (dec0_parts hk hkn).trans (e13_eq hk _))
  obtain ⟨w2, hw2⟩ : ∃ w2, w2 = (w.alloc (.cells #[.int .i64 0, .int .i64 0, .int .i64 0, .int .i64 0, .slice none 0 0, .slice none 0 0, .int .i64 0, .int .i64 0, .int .i64 0, .int .i64 0, .int .i64 0, .int .i64 0, .bool false] 31)).alloc (.cells #[.string s, .int .i64 0, .bool false] 80) := ⟨_, rfl⟩
  have HIN : Hid (In w2 (w.heap.size + 1) s 0 false) := Lib.hid (by
    rw [hw2]
    have q2 := cells_new (w.alloc (.cells #[.int .i64 0, .int .i64 0, .int .i64 0, .int .i64 0, .slice none 0 0, .slice none 0 0, .int .i64 0, .int .i64 0, .int .i64 0, .int .i64 0, .int .i64 0, .int .i64 0, .bool false] 31)) 80 [.string s, .int .i64 0, .bool false] #[.string s, .int .i64 0, .bool false] rfl
    rw [World.size_alloc] at q2
    exact q2)
  have HRS : Hid (Cells w2 w.heap.size 31 zeroC) := Lib.hid (by
    rw [hw2]
    exact (cells_new w 31 zeroC #[.int .i64 0, .int .i64 0, .int .i64 0, .int .i64 0, .slice none 0 0, .slice none 0 0, .int .i64 0, .int .i64 0, .int .i64 0, .int .i64 0, .int .i64 0, .int .i64 0, .bool false] rfl).later (below_alloc _ _))
  have HB2 : Hid (Below w.heap.size w w2) := Lib.hid (by
    rw [hw2]
    exact (below_alloc w _).alloc (by rw [World.size_alloc]; omega) _)
  have HS2 : Hid (w2.heap.size = w.heap.size + 2) := Lib.hid (by rw [hw2, World.size_alloc, World.size_alloc])
  clear hkn hs
  go_enter Try.func15, Try.ntmps15
  go_wp2_with fail
  rw [← hw2]
  clear hw2
  refine (in_any 0 s 0 false (w.heap.size + 1) w2 (by decide) HIN.out (Nat.zero_le _) HSZ.out).mono ?_
  rintro e wa ⟨rfl, hia, hoa⟩
  rw [HKV.out]
  obtain ⟨pa, ha1⟩ : ∃ pa, inA 0 s 0 false = pa := ⟨_, rfl⟩
  obtain ⟨pb, hb1⟩ : ∃ pb, inB 0 s 0 false = pb := ⟨_, rfl⟩
  rw [ha1, hb1] at hia HSIM0
  obtain ⟨wb, hwb⟩ : ∃ v, v = wa.alloc (.cells #[.int .i64 k, .int .i64 0, .int .i64 0, .int .i64 0, .slice none 0 0, .slice none 0 0, .int .i64 0, .int .i64 0, .int .i64 0, .int .i64 0, .int .i64 0, .int .i64 0, .bool false] 31) := ⟨_, rfl⟩
  have HM : Hid (rfSt w wa.heap.size wb (rcK k) s pa pb lay0) := Lib.hid (by
    have hs2 := HS2.out
    have hsz := hoa.size
    have q := cells_new wa 31 ((rcK k).vals lay0) #[.int .i64 k, .int .i64 0, .int .i64 0, .int .i64 0, .slice none 0 0, .slice none 0 0, .int .i64 0, .int .i64 0, .int .i64 0, .int .i64 0, .int .i64 0, .int .i64 0, .bool false] rfl
    have hb := below_alloc wa (.cells #[.int .i64 k, .int .i64 0, .int .i64 0, .int .i64 0, .slice none 0 0, .slice none 0 0, .int .i64 0, .int .i64 0, .int .i64 0, .int .i64 0, .int .i64 0, .int .i64 0, .bool false] 31)
    rw [← hwb] at q hb
    refine ⟨Cells.later hia hb, (HB2.out.trans (hoa.below (by omega) fun j hj => by omega)).trans (hb.mono (by omega)), by omega, by rw [hwb, World.size_alloc]; omega, q, (cells_only HRS.out hoa (by omega)).later hb, World.ownsRow_nil _ _ _ _, World.ownsRow_nil _ _ _ _, fun i hi => by cases hi⟩)
  obtain ⟨m, hm⟩ : ∃ m, wa.heap.size = m := ⟨_, rfl⟩
  clear hia hoa ha1 hb1 HIN HRS HB2 HS2
  rw [hm] at HM
  go_upto_region 3 with (fail)
  rw [← hwb]
  try rw [hm]
  clear hwb hm
  have c0 : wb.cell? ⟨m, 0, none⟩ = some (.int .i64 k) := HM.out.rcd.cell (j := 0) rfl
  by_cases hk : 1 ≤ k ∧ k ≤ 15
  · have h1 : ¬ k < 1 := by omega
    have h2 : ¬ 15 < k := by omega
    have HK := Lib.hid hk
    have HDD := Lib.hid (HD0.out hk)
    obtain ⟨wc, hwc⟩ : ∃ v, v = wb.alloc (.cells #[.int .i64 0, .int .i64 0, .int .i64 0, .int .i64 0, .int .i64 0, .int .i64 0, .int .i64 0] 3) := ⟨_, rfl⟩
    have HST : Hid (rfSt w m wc (rcK k) s pa pb lay0) := Lib.hid (by rw [hwc]; exact HM.out.later (below_alloc _ _))
    have HGC : Hid (Cells wc wb.heap.size 3 (gotC (rcK k))) := Lib.hid (by rw [hwc]; exact cells_new wb 3 _ _ rfl)
    have HMG : Hid (m < wb.heap.size) := Lib.hid (by have := HM.out.low; omega)
    obtain ⟨g, hg⟩ : ∃ g, wb.heap.size = g := ⟨_, rfl⟩
    rw [hg] at HGC HMG
    clear hk HD0 HDK
    go_wp2_with fail
    rw [← hwc]
    try rw [hg]
    clear hwc hg c0 HM
    go_loopw [8] (fun i wr => ∃ (j : Nat), j ≤ 6 ∧ i = .int .i64 ((j : Int) + 1) ∧ rfSt w m wr (rcK k) s (numM s k (rcK k, pa, pb) j).2.1 (numM s k (rcK k, pa, pb) j).2.2 lay0 ∧ Cells wr g 3 (gotC (numM s k (rcK k, pa, pb) j).1)) (fun i _ => 7 - (intOf i).toNat)
    case atStart => exact ⟨0, Nat.zero_le _, rfl, HST.out, HGC.out⟩
    case round =>
      obtain ⟨j, hj, rfl, hst, hgc⟩ := hrel
      have HST := Lib.hid hst
      have HGC := Lib.hid hgc
      by_cases hlt : j < 6
      · have HJ := Lib.hid hlt
        have HLE := Lib.hid (numM_le s k (t := (rcK k, pa, pb)) HSIM0.out.pos.le j)
        have HH := Lib.hid (refHas_any k j wr HK.out hlt)
        have HN : Hid (numM s k (rcK k, pa, pb) (j + 1) = if hasR k j = true then (setN (numM s k (rcK k, pa, pb) j).1 j (inV 3 s (numM s k (rcK k, pa, pb) j).2.1 (numM s k (rcK k, pa, pb) j).2.2), inA 3 s (numM s k (rcK k, pa, pb) j).2.1 (numM s k (rcK k, pa, pb) j).2.2, inB 3 s (numM s k (rcK k, pa, pb) j).2.1 (numM s k (rcK k, pa, pb) j).2.2) else numM s k (rcK k, pa, pb) j) := Lib.hid rfl
        obtain ⟨hb, hhb⟩ : ∃ v, hasR k j = v := ⟨_, rfl⟩
        obtain ⟨t, ht⟩ : ∃ t, numM s k (rcK k, pa, pb) j = t := ⟨_, rfl⟩
        rw [hhb] at HH HN
        rw [ht] at HST HGC HLE HN
        obtain ⟨x, a, b⟩ := t
        simp only at HST HGC HLE HN
        have HJC : Hid (((j + 1 : Nat) : Int) = (j : Int) + 1) := Lib.hid (by omega)
        rw [HJC.out] at HH
        clear hst hgc ht hhb
        go_wp2_with fail
        refine HH.out.mono ?_
        rintro e w' ⟨rfl, rfl⟩
        cases hb with
        | false =>
          go_wp2_with fail
          go_roundw
          case rel => exact ⟨j + 1, by omega, by go_num, by rw [HN.out]; exact HST.out, by rw [HN.out]; exact HGC.out⟩
          case measure => simp [intOf]; omega
        | true =>
          go_wp2_with fail
          refine (in_any 3 s a b (w.heap.size + 1) wr (by decide) HST.out.inn HLE.out HSZ.out).mono ?_
          rintro e wq ⟨rfl, hi, ho⟩
          have HT1 := Lib.hid (HST.out.step hi ho)
          have HG1 : Hid (Cells wq g 3 (gotC x)) := Lib.hid (cells_only HGC.out ho (by have := HST.out.gt; have := HMG.out; omega))
          obtain ⟨v, hv⟩ : ∃ v, inV 3 s a b = v := ⟨_, rfl⟩
          obtain ⟨a1, hA⟩ : ∃ v, inA 3 s a b = v := ⟨_, rfl⟩
          obtain ⟨b1, hB⟩ : ∃ v, inB 3 s a b = v := ⟨_, rfl⟩
          rw [hv, hA, hB] at HN
          rw [hA, hB] at HT1
          rw [hv]
          have HI2 : Hid (∃ z, (gotC x)[j + 1]? = some z) := Lib.hid ⟨_, List.getElem?_eq_getElem (by show j + 1 < 7; omega)⟩
          obtain ⟨z, hz⟩ := HI2.out
          have g0 := HG1.out.cell hz
          have f0 := HG1.out.frozen (j := j + 1) (by show j + 1 < 7; omega)
          have ht1 : ((j : Int) + 1).toNat = j + 1 := by omega
          clear hi ho hv hA hB hz
          obtain ⟨wz, hW2⟩ : ∃ v', v' = wq.setCell ⟨g, j + 1, none⟩ (.int .i64 v) := ⟨_, rfl⟩
          have HT2 : Hid (rfSt w m wz (rcK k) s a1 b1 lay0) := Lib.hid (by rw [hW2]; exact HT1.out.aside rfl rfl (Only.of_set wq ⟨g, j + 1, none⟩ _) HMG.out)
          have HG2 : Hid (Cells wz g 3 (gotC (setN x j v))) := Lib.hid (by rw [hW2, ← gotC_set x j HJ.out v]; exact HG1.out.set_ (j + 1) (.int .i64 v))
          go_wp2_with fail
          rw [← hW2]
          clear hW2 g0 f0
          go_roundw
          case rel => exact ⟨j + 1, by omega, by go_num, by rw [HN.out]; exact HT2.out, by rw [HN.out]; exact HG2.out⟩
          case measure => simp [intOf]; omega
      · obtain rfl : j = 6 := by omega
        have HSIM := Lib.hid (sim_numM s k (t := (rcK k, pa, pb)) HSIM0.out 6 (Nat.le_refl _))
        have HPL := Lib.hid (numM_plain s k (t := (rcK k, pa, pb)) (q := k) ⟨rfl, rfl, rfl, rfl, rfl⟩ 6)
        obtain ⟨t, ht⟩ : ∃ t, numM s k (rcK k, pa, pb) 6 = t := ⟨_, rfl⟩
        rw [ht] at HST HGC HSIM HPL
        obtain ⟨⟨k', tt, its, nds, a0, a1, a2, a3, a4, a5, yes⟩, a, b⟩ := t
        simp only at HST HGC HSIM HPL
        obtain ⟨hp1, hp2, hp3, hp4, hp5⟩ := HPL.out
        simp only at hp1 hp2 hp3 hp4 hp5
        have hp1' := hp1.symm
        subst hp1'
        subst hp2
        subst hp3
        subst hp4
        subst hp5
        have HRC := Lib.hid HST.out.rcd
        have HGO : Hid (∀ wi, Only (fun k => k = m) wr wi → Cells wi g 3 [.int .i64 0, .int .i64 a0, .int .i64 a1, .int .i64 a2, .int .i64 a3, .int .i64 a4, .int .i64 a5]) := Lib.hid (fun wi ho => cells_only HGC.out ho (by have := HMG.out; omega))
        clear hst hgc ht HPL hj
        go_wp2_with fail
        refine Reg.region_inv (by kernel_rfl) (fun i => ([some (.slice (some ⟨g, 0, none⟩) 7 7), some (.pointer (some ⟨g, 1, none⟩)), some (.int .i64 a0), some (.slice (some ⟨g, 0, none⟩) 7 7), some (.pointer (some ⟨g, 2, none⟩)), some (.int .i64 a1), some (.slice (some ⟨g, 0, none⟩) 7 7), some (.pointer (some ⟨g, 3, none⟩)), some (.int .i64 a2), some (.slice (some ⟨g, 0, none⟩) 7 7), some (.pointer (some ⟨g, 4, none⟩)), some (.int .i64 a3), some (.slice (some ⟨g, 0, none⟩) 7 7), some (.pointer (some ⟨g, 5, none⟩)), some (.int .i64 a4), some (.slice (some ⟨g, 0, none⟩) 7 7), some (.pointer (some ⟨g, 6, none⟩)), some (.int .i64 a5), some (.pointer (some ⟨m, 6, none⟩)), none, some (.pointer (some ⟨m, 7, none⟩)), none, some (.pointer (some ⟨m, 8, none⟩)), none, some (.pointer (some ⟨m, 9, none⟩)), none, some (.pointer (some ⟨m, 10, none⟩)), none, some (.pointer (some ⟨m, 11, none⟩)), none] : List (Option Value)).getD i none) (fun D V W => wr6 m wr 6 [.int .i64 k, .int .i64 0, .int .i64 0, .int .i64 0, .slice none 0 0, .slice none 0 0] [.bool false] a0 a1 a2 a3 a4 a5 (D 19) (D 21) (D 23) (D 25) (D 27) (D 29) W) (fun V => [(some 42, V 0), (some 43, V 1), (some 44, V 2), (some 45, V 3), (some 46, V 4), (some 47, V 5), (some 48, V 6), (some 49, V 7), (some 50, V 8), (some 51, V 9), (some 52, V 10), (some 53, V 11), (some 54, V 12), (some 55, V 13), (some 56, V 14), (some 57, V 15), (some 58, V 16), (some 59, V 17), (some 60, V 18), (none, V 19), (some 61, V 20), (none, V 21), (some 62, V 22), (none, V 23), (some 63, V 24), (none, V 25), (some 64, V 26), (none, V 27), (some 65, V 28), (none, V 29)]) (by kernel_rfl) (by kernel_rfl) (fun V => rfl) ?_ ?_ ?_
        · intro V
          exact ⟨rfl, HRC.out, Only.of_below (Below.refl _ _).drew⟩
        · intro i o ho
          have hi : i < 30 := (Array.getElem?_eq_some_iff.1 ho).1
          rcases i with _ | _ | _ | _ | _ | _ | _ | _ | _ | _ | _ | _ | _ | _ | _ | _ | _ | _ | _ | _ | _ | _ | _ | _ | _ | _ | _ | _ | _ | _ | i
          · obtain rfl := Option.some.inj ho
            intro D V ρ wi hE hI hDi hT hF hs hd hk
            have e7 : ρ (.tmp 7) = .slice (some ⟨g, 0, none⟩) 7 7 := hs 7 (by kernel_rfl)
            clear hT hF hk
            exact Reg.Gives.value (v := .slice (some ⟨g, 0, none⟩) 7 7) (w' := wi) (by go_simp) ⟨fun x h => Option.some.inj h, hI⟩
          · obtain rfl := Option.some.inj ho
            intro D V ρ wi hE hI hDi hT hF hs hd hk
            have e42 : ρ (.tmp 42) = .slice (some ⟨g, 0, none⟩) 7 7 := (hd 0 42 (by kernel_rfl) (by kernel_rfl) (by show _ < 164; decide)).trans (hk 0 (by kernel_rfl) _ rfl)
            have hc := hE.const
            clear hT hF hk
            exact Reg.Gives.value (v := .pointer (some ⟨g, 1, none⟩)) (w' := wi) (by go_simp) ⟨fun x h => Option.some.inj h, hI⟩
          · obtain rfl := Option.some.inj ho
            intro D V ρ wi hE hI hDi hT hF hs hd hk
            have e43 : ρ (.tmp 43) = .pointer (some ⟨g, 1, none⟩) := (hd 1 43 (by kernel_rfl) (by kernel_rfl) (by show _ < 164; decide)).trans (hk 1 (by kernel_rfl) _ rfl)
            clear hT hF hk
            have hx := (HGO.out wi hI.only).cell (j := 1) rfl
            exact Reg.Gives.value (v := .int .i64 a0) (w' := wi) (by go_simp) ⟨fun x h => Option.some.inj h, hI⟩
          · obtain rfl := Option.some.inj ho
            intro D V ρ wi hE hI hDi hT hF hs hd hk
            have e7 : ρ (.tmp 7) = .slice (some ⟨g, 0, none⟩) 7 7 := hs 7 (by kernel_rfl)
            clear hT hF hk
            exact Reg.Gives.value (v := .slice (some ⟨g, 0, none⟩) 7 7) (w' := wi) (by go_simp) ⟨fun x h => Option.some.inj h, hI⟩
          · obtain rfl := Option.some.inj ho
            intro D V ρ wi hE hI hDi hT hF hs hd hk
            have e45 : ρ (.tmp 45) = .slice (some ⟨g, 0, none⟩) 7 7 := (hd 3 45 (by kernel_rfl) (by kernel_rfl) (by show _ < 164; decide)).trans (hk 3 (by kernel_rfl) _ rfl)
            have hc := hE.const
            clear hT hF hk
            exact Reg.Gives.value (v := .pointer (some ⟨g, 2, none⟩)) (w' := wi) (by go_simp) ⟨fun x h => Option.some.inj h, hI⟩
          · obtain rfl := Option.some.inj ho
            intro D V ρ wi hE hI hDi hT hF hs hd hk
            have e46 : ρ (.tmp 46) = .pointer (some ⟨g, 2, none⟩) := (hd 4 46 (by kernel_rfl) (by kernel_rfl) (by show _ < 164; decide)).trans (hk 4 (by kernel_rfl) _ rfl)
            clear hT hF hk
            have hx := (HGO.out wi hI.only).cell (j := 2) rfl
            exact Reg.Gives.value (v := .int .i64 a1) (w' := wi) (by go_simp) ⟨fun x h => Option.some.inj h, hI⟩
          · obtain rfl := Option.some.inj ho
            intro D V ρ wi hE hI hDi hT hF hs hd hk
            have e7 : ρ (.tmp 7) = .slice (some ⟨g, 0, none⟩) 7 7 := hs 7 (by kernel_rfl)
            clear hT hF hk
            exact Reg.Gives.value (v := .slice (some ⟨g, 0, none⟩) 7 7) (w' := wi) (by go_simp) ⟨fun x h => Option.some.inj h, hI⟩
          · obtain rfl := Option.some.inj ho
            intro D V ρ wi hE hI hDi hT hF hs hd hk
            have e48 : ρ (.tmp 48) = .slice (some ⟨g, 0, none⟩) 7 7 := (hd 6 48 (by kernel_rfl) (by kernel_rfl) (by show _ < 164; decide)).trans (hk 6 (by kernel_rfl) _ rfl)
            have hc := hE.const
            clear hT hF hk
            exact Reg.Gives.value (v := .pointer (some ⟨g, 3, none⟩)) (w' := wi) (by go_simp) ⟨fun x h => Option.some.inj h, hI⟩
          · obtain rfl := Option.some.inj ho
            intro D V ρ wi hE hI hDi hT hF hs hd hk
            have e49 : ρ (.tmp 49) = .pointer (some ⟨g, 3, none⟩) := (hd 7 49 (by kernel_rfl) (by kernel_rfl) (by show _ < 164; decide)).trans (hk 7 (by kernel_rfl) _ rfl)
            clear hT hF hk
            have hx := (HGO.out wi hI.only).cell (j := 3) rfl
            exact Reg.Gives.value (v := .int .i64 a2) (w' := wi) (by go_simp) ⟨fun x h => Option.some.inj h, hI⟩
          · obtain rfl := Option.some.inj ho
            intro D V ρ wi hE hI hDi hT hF hs hd hk
            have e7 : ρ (.tmp 7) = .slice (some ⟨g, 0, none⟩) 7 7 := hs 7 (by kernel_rfl)
            clear hT hF hk
            exact Reg.Gives.value (v := .slice (some ⟨g, 0, none⟩) 7 7) (w' := wi) (by go_simp) ⟨fun x h => Option.some.inj h, hI⟩
          · obtain rfl := Option.some.inj ho
            intro D V ρ wi hE hI hDi hT hF hs hd hk
            have e51 : ρ (.tmp 51) = .slice (some ⟨g, 0, none⟩) 7 7 := (hd 9 51 (by kernel_rfl) (by kernel_rfl) (by show _ < 164; decide)).trans (hk 9 (by kernel_rfl) _ rfl)
            have hc := hE.const
            clear hT hF hk
            exact Reg.Gives.value (v := .pointer (some ⟨g, 4, none⟩)) (w' := wi) (by go_simp) ⟨fun x h => Option.some.inj h, hI⟩
          · obtain rfl := Option.some.inj ho
            intro D V ρ wi hE hI hDi hT hF hs hd hk
            have e52 : ρ (.tmp 52) = .pointer (some ⟨g, 4, none⟩) := (hd 10 52 (by kernel_rfl) (by kernel_rfl) (by show _ < 164; decide)).trans (hk 10 (by kernel_rfl) _ rfl)
            clear hT hF hk
            have hx := (HGO.out wi hI.only).cell (j := 4) rfl
            exact Reg.Gives.value (v := .int .i64 a3) (w' := wi) (by go_simp) ⟨fun x h => Option.some.inj h, hI⟩
          · obtain rfl := Option.some.inj ho
            intro D V ρ wi hE hI hDi hT hF hs hd hk
            have e7 : ρ (.tmp 7) = .slice (some ⟨g, 0, none⟩) 7 7 := hs 7 (by kernel_rfl)
            clear hT hF hk
            exact Reg.Gives.value (v := .slice (some ⟨g, 0, none⟩) 7 7) (w' := wi) (by go_simp) ⟨fun x h => Option.some.inj h, hI⟩
          · obtain rfl := Option.some.inj ho
            intro D V ρ wi hE hI hDi hT hF hs hd hk
            have e54 : ρ (.tmp 54) = .slice (some ⟨g, 0, none⟩) 7 7 := (hd 12 54 (by kernel_rfl) (by kernel_rfl) (by show _ < 164; decide)).trans (hk 12 (by kernel_rfl) _ rfl)
            have hc := hE.const
            clear hT hF hk
            exact Reg.Gives.value (v := .pointer (some ⟨g, 5, none⟩)) (w' := wi) (by go_simp) ⟨fun x h => Option.some.inj h, hI⟩
          · obtain rfl := Option.some.inj ho
            intro D V ρ wi hE hI hDi hT hF hs hd hk
            have e55 : ρ (.tmp 55) = .pointer (some ⟨g, 5, none⟩) := (hd 13 55 (by kernel_rfl) (by kernel_rfl) (by show _ < 164; decide)).trans (hk 13 (by kernel_rfl) _ rfl)
            clear hT hF hk
            have hx := (HGO.out wi hI.only).cell (j := 5) rfl
            exact Reg.Gives.value (v := .int .i64 a4) (w' := wi) (by go_simp) ⟨fun x h => Option.some.inj h, hI⟩
          · obtain rfl := Option.some.inj ho
            intro D V ρ wi hE hI hDi hT hF hs hd hk
            have e7 : ρ (.tmp 7) = .slice (some ⟨g, 0, none⟩) 7 7 := hs 7 (by kernel_rfl)
            clear hT hF hk
            exact Reg.Gives.value (v := .slice (some ⟨g, 0, none⟩) 7 7) (w' := wi) (by go_simp) ⟨fun x h => Option.some.inj h, hI⟩
          · obtain rfl := Option.some.inj ho
            intro D V ρ wi hE hI hDi hT hF hs hd hk
            have e57 : ρ (.tmp 57) = .slice (some ⟨g, 0, none⟩) 7 7 := (hd 15 57 (by kernel_rfl) (by kernel_rfl) (by show _ < 164; decide)).trans (hk 15 (by kernel_rfl) _ rfl)
            have hc := hE.const
            clear hT hF hk
            exact Reg.Gives.value (v := .pointer (some ⟨g, 6, none⟩)) (w' := wi) (by go_simp) ⟨fun x h => Option.some.inj h, hI⟩
          · obtain rfl := Option.some.inj ho
            intro D V ρ wi hE hI hDi hT hF hs hd hk
            have e58 : ρ (.tmp 58) = .pointer (some ⟨g, 6, none⟩) := (hd 16 58 (by kernel_rfl) (by kernel_rfl) (by show _ < 164; decide)).trans (hk 16 (by kernel_rfl) _ rfl)
            clear hT hF hk
            have hx := (HGO.out wi hI.only).cell (j := 6) rfl
            exact Reg.Gives.value (v := .int .i64 a5) (w' := wi) (by go_simp) ⟨fun x h => Option.some.inj h, hI⟩
          · obtain rfl := Option.some.inj ho
            intro D V ρ wi hE hI hDi hT hF hs hd hk
            have e5 : ρ (.tmp 5) = .pointer (some ⟨m, 0, none⟩) := hs 5 (by kernel_rfl)
            clear hT hF hk
            exact Reg.Gives.value (v := .pointer (some ⟨m, 6, none⟩)) (w' := wi) (by go_simp) ⟨fun x h => Option.some.inj h, hI⟩
          · obtain rfl := Option.some.inj ho
            intro D V ρ wi hE hI hDi hT hF hs hd hk
            have e60 : ρ (.tmp 60) = .pointer (some ⟨m, 6, none⟩) := (hd 18 60 (by kernel_rfl) (by kernel_rfl) (by show _ < 164; decide)).trans (hk 18 (by kernel_rfl) _ rfl)
            have e44 : ρ (.tmp 44) = .int .i64 a0 := (hd 2 44 (by kernel_rfl) (by kernel_rfl) (by show _ < 164; decide)).trans (hk 2 (by kernel_rfl) _ rfl)
            have hD19 : D 19 = false := hDi
            have hD21 : D 21 = false := hF 1 21 (by show _ < 30; decide) (by kernel_rfl)
            have hD23 : D 23 = false := hF 1 23 (by show _ < 30; decide) (by kernel_rfl)
            have hD25 : D 25 = false := hF 1 25 (by show _ < 30; decide) (by kernel_rfl)
            have hD27 : D 27 = false := hF 1 27 (by show _ < 30; decide) (by kernel_rfl)
            have hD29 : D 29 = false := hF 1 29 (by show _ < 30; decide) (by kernel_rfl)
            clear hT hF
            have hc1 := hI.c0
            have hf1 := hI.f0
            exact Reg.Gives.skip (w' := wi.setCell ⟨m, 6, none⟩ (.int .i64 a0)) (by go_simp) ⟨fun x h => (by cases h), by show wr6 m wr 6 [.int .i64 k, .int .i64 0, .int .i64 0, .int .i64 0, .slice none 0 0, .slice none 0 0] [.bool false] a0 a1 a2 a3 a4 a5 true (D 21) (D 23) (D 25) (D 27) (D 29) _; exact hI.st0⟩
          · obtain rfl := Option.some.inj ho
            intro D V ρ wi hE hI hDi hT hF hs hd hk
            have e5 : ρ (.tmp 5) = .pointer (some ⟨m, 0, none⟩) := hs 5 (by kernel_rfl)
            clear hT hF hk
            exact Reg.Gives.value (v := .pointer (some ⟨m, 7, none⟩)) (w' := wi) (by go_simp) ⟨fun x h => Option.some.inj h, hI⟩
          · obtain rfl := Option.some.inj ho
            intro D V ρ wi hE hI hDi hT hF hs hd hk
            have e61 : ρ (.tmp 61) = .pointer (some ⟨m, 7, none⟩) := (hd 20 61 (by kernel_rfl) (by kernel_rfl) (by show _ < 164; decide)).trans (hk 20 (by kernel_rfl) _ rfl)
            have e47 : ρ (.tmp 47) = .int .i64 a1 := (hd 5 47 (by kernel_rfl) (by kernel_rfl) (by show _ < 164; decide)).trans (hk 5 (by kernel_rfl) _ rfl)
            have hD19 : D 19 = true := hT 1 19 (by kernel_rfl)
            have hD21 : D 21 = false := hDi
            have hD23 : D 23 = false := hF 1 23 (by show _ < 30; decide) (by kernel_rfl)
            have hD25 : D 25 = false := hF 1 25 (by show _ < 30; decide) (by kernel_rfl)
            have hD27 : D 27 = false := hF 1 27 (by show _ < 30; decide) (by kernel_rfl)
            have hD29 : D 29 = false := hF 1 29 (by show _ < 30; decide) (by kernel_rfl)
            clear hT hF
            have hc1 := hI.c1
            have hf1 := hI.f1
            exact Reg.Gives.skip (w' := wi.setCell ⟨m, 7, none⟩ (.int .i64 a1)) (by go_simp) ⟨fun x h => (by cases h), by show wr6 m wr 6 [.int .i64 k, .int .i64 0, .int .i64 0, .int .i64 0, .slice none 0 0, .slice none 0 0] [.bool false] a0 a1 a2 a3 a4 a5 (D 19) true (D 23) (D 25) (D 27) (D 29) _; exact hI.st1⟩
          · obtain rfl := Option.some.inj ho
            intro D V ρ wi hE hI hDi hT hF hs hd hk
            have e5 : ρ (.tmp 5) = .pointer (some ⟨m, 0, none⟩) := hs 5 (by kernel_rfl)
            clear hT hF hk
            exact Reg.Gives.value (v := .pointer (some ⟨m, 8, none⟩)) (w' := wi) (by go_simp) ⟨fun x h => Option.some.inj h, hI⟩
          · obtain rfl := Option.some.inj ho
            intro D V ρ wi hE hI hDi hT hF hs hd hk
            have e62 : ρ (.tmp 62) = .pointer (some ⟨m, 8, none⟩) := (hd 22 62 (by kernel_rfl) (by kernel_rfl) (by show _ < 164; decide)).trans (hk 22 (by kernel_rfl) _ rfl)
            have e50 : ρ (.tmp 50) = .int .i64 a2 := (hd 8 50 (by kernel_rfl) (by kernel_rfl) (by show _ < 164; decide)).trans (hk 8 (by kernel_rfl) _ rfl)
            have hD19 : D 19 = true := hT 1 19 (by kernel_rfl)
            have hD21 : D 21 = true := hT 1 21 (by kernel_rfl)
            have hD23 : D 23 = false := hDi
            have hD25 : D 25 = false := hF 1 25 (by show _ < 30; decide) (by kernel_rfl)
            have hD27 : D 27 = false := hF 1 27 (by show _ < 30; decide) (by kernel_rfl)
            have hD29 : D 29 = false := hF 1 29 (by show _ < 30; decide) (by kernel_rfl)
            clear hT hF
            have hc1 := hI.c2
            have hf1 := hI.f2
            exact Reg.Gives.skip (w' := wi.setCell ⟨m, 8, none⟩ (.int .i64 a2)) (by go_simp) ⟨fun x h => (by cases h), by show wr6 m wr 6 [.int .i64 k, .int .i64 0, .int .i64 0, .int .i64 0, .slice none 0 0, .slice none 0 0] [.bool false] a0 a1 a2 a3 a4 a5 (D 19) (D 21) true (D 25) (D 27) (D 29) _; exact hI.st2⟩
          · obtain rfl := Option.some.inj ho
            intro D V ρ wi hE hI hDi hT hF hs hd hk
            have e5 : ρ (.tmp 5) = .pointer (some ⟨m, 0, none⟩) := hs 5 (by kernel_rfl)
            clear hT hF hk
            exact Reg.Gives.value (v := .pointer (some ⟨m, 9, none⟩)) (w' := wi) (by go_simp) ⟨fun x h => Option.some.inj h, hI⟩
          · obtain rfl := Option.some.inj ho
            intro D V ρ wi hE hI hDi hT hF hs hd hk
            have e63 : ρ (.tmp 63) = .pointer (some ⟨m, 9, none⟩) := (hd 24 63 (by kernel_rfl) (by kernel_rfl) (by show _ < 164; decide)).trans (hk 24 (by kernel_rfl) _ rfl)
            have e53 : ρ (.tmp 53) = .int .i64 a3 := (hd 11 53 (by kernel_rfl) (by kernel_rfl) (by show _ < 164; decide)).trans (hk 11 (by kernel_rfl) _ rfl)
            have hD19 : D 19 = true := hT 1 19 (by kernel_rfl)
            have hD21 : D 21 = true := hT 1 21 (by kernel_rfl)
            have hD23 : D 23 = true := hT 1 23 (by kernel_rfl)
            have hD25 : D 25 = false := hDi
            have hD27 : D 27 = false := hF 1 27 (by show _ < 30; decide) (by kernel_rfl)
            have hD29 : D 29 = false := hF 1 29 (by show _ < 30; decide) (by kernel_rfl)
            clear hT hF
            have hc1 := hI.c3
            have hf1 := hI.f3
            exact Reg.Gives.skip (w' := wi.setCell ⟨m, 9, none⟩ (.int .i64 a3)) (by go_simp) ⟨fun x h => (by cases h), by show wr6 m wr 6 [.int .i64 k, .int .i64 0, .int .i64 0, .int .i64 0, .slice none 0 0, .slice none 0 0] [.bool false] a0 a1 a2 a3 a4 a5 (D 19) (D 21) (D 23) true (D 27) (D 29) _; exact hI.st3⟩
          · obtain rfl := Option.some.inj ho
            intro D V ρ wi hE hI hDi hT hF hs hd hk
            have e5 : ρ (.tmp 5) = .pointer (some ⟨m, 0, none⟩) := hs 5 (by kernel_rfl)
            clear hT hF hk
            exact Reg.Gives.value (v := .pointer (some ⟨m, 10, none⟩)) (w' := wi) (by go_simp) ⟨fun x h => Option.some.inj h, hI⟩
          · obtain rfl := Option.some.inj ho
            intro D V ρ wi hE hI hDi hT hF hs hd hk
            have e64 : ρ (.tmp 64) = .pointer (some ⟨m, 10, none⟩) := (hd 26 64 (by kernel_rfl) (by kernel_rfl) (by show _ < 164; decide)).trans (hk 26 (by kernel_rfl) _ rfl)
            have e56 : ρ (.tmp 56) = .int .i64 a4 := (hd 14 56 (by kernel_rfl) (by kernel_rfl) (by show _ < 164; decide)).trans (hk 14 (by kernel_rfl) _ rfl)
            have hD19 : D 19 = true := hT 1 19 (by kernel_rfl)
            have hD21 : D 21 = true := hT 1 21 (by kernel_rfl)
            have hD23 : D 23 = true := hT 1 23 (by kernel_rfl)
            have hD25 : D 25 = true := hT 1 25 (by kernel_rfl)
            have hD27 : D 27 = false := hDi
            have hD29 : D 29 = false := hF 1 29 (by show _ < 30; decide) (by kernel_rfl)
            clear hT hF
            have hc1 := hI.c4
            have hf1 := hI.f4
            exact Reg.Gives.skip (w' := wi.setCell ⟨m, 10, none⟩ (.int .i64 a4)) (by go_simp) ⟨fun x h => (by cases h), by show wr6 m wr 6 [.int .i64 k, .int .i64 0, .int .i64 0, .int .i64 0, .slice none 0 0, .slice none 0 0] [.bool false] a0 a1 a2 a3 a4 a5 (D 19) (D 21) (D 23) (D 25) true (D 29) _; exact hI.st4⟩
          · obtain rfl := Option.some.inj ho
            intro D V ρ wi hE hI hDi hT hF hs hd hk
            have e5 : ρ (.tmp 5) = .pointer (some ⟨m, 0, none⟩) := hs 5 (by kernel_rfl)
            clear hT hF hk
            exact Reg.Gives.value (v := .pointer (some ⟨m, 11, none⟩)) (w' := wi) (by go_simp) ⟨fun x h => Option.some.inj h, hI⟩
          · obtain rfl := Option.some.inj ho
            intro D V ρ wi hE hI hDi hT hF hs hd hk
            have e65 : ρ (.tmp 65) = .pointer (some ⟨m, 11, none⟩) := (hd 28 65 (by kernel_rfl) (by kernel_rfl) (by show _ < 164; decide)).trans (hk 28 (by kernel_rfl) _ rfl)
            have e59 : ρ (.tmp 59) = .int .i64 a5 := (hd 17 59 (by kernel_rfl) (by kernel_rfl) (by show _ < 164; decide)).trans (hk 17 (by kernel_rfl) _ rfl)
            have hD19 : D 19 = true := hT 1 19 (by kernel_rfl)
            have hD21 : D 21 = true := hT 1 21 (by kernel_rfl)
            have hD23 : D 23 = true := hT 1 23 (by kernel_rfl)
            have hD25 : D 25 = true := hT 1 25 (by kernel_rfl)
            have hD27 : D 27 = true := hT 1 27 (by kernel_rfl)
            have hD29 : D 29 = false := hDi
            clear hT hF
            have hc1 := hI.c5
            have hf1 := hI.f5
            exact Reg.Gives.skip (w' := wi.setCell ⟨m, 11, none⟩ (.int .i64 a5)) (by go_simp) ⟨fun x h => (by cases h), by show wr6 m wr 6 [.int .i64 k, .int .i64 0, .int .i64 0, .int .i64 0, .slice none 0 0, .slice none 0 0] [.bool false] a0 a1 a2 a3 a4 a5 (D 19) (D 21) (D 23) (D 25) (D 27) true _; exact hI.st5⟩
          · omega
        · intro V w1 hk hI
          simp only [Reg.putsO, List.foldl_cons, List.foldl_nil, Act.put, List.setIfInBounds_toArray, List.set_cons_succ, List.set_cons_zero]
          replace hI : wr6 m wr 6 [.int .i64 k, .int .i64 0, .int .i64 0, .int .i64 0, .slice none 0 0, .slice none 0 0] [.bool false] a0 a1 a2 a3 a4 a5 true true true true true true w1 := hI
          clear hk
          have HT : Hid (rfSt w m w1 (⟨k, ⟨0, 0, 0⟩, [], [], a0, a1, a2, a3, a4, a5, false⟩ : Rc) s a b lay0) := Lib.hid (HST.out.put (x' := ⟨k, ⟨0, 0, 0⟩, [], [], a0, a1, a2, a3, a4, a5, false⟩) hI.only hI.cells rfl rfl)
          clear hI
          clear hlt
          apply_assumption
          exact t13 s w HSZ.out HK.out HT.out HSIM.out HDD.out (by kernel_rfl)
  · have HNONE := Lib.hid (HDK.out hk)
    have HNO := Lib.hid (fin_none HNONE.out)
    by_cases h1 : k < 1
    · clear hk
      go_upto_region 5 with (fail)
      apply wp_region_lit
      refine wpList_buildTo rfl 31 _ rfl (some 28) rfl #[.int .i64 0, .int .i64 0, .int .i64 0, .int .i64 0, .slice none 0 0, .slice none 0 0, .int .i64 0, .int .i64 0, .int .i64 0, .int .i64 0, .int .i64 0, .int .i64 0, .bool false] (by kernel_rfl) ?_
      refine wpList_store_cells rfl 31 _ _ rfl w.heap.size #[.int .i64 0, .int .i64 0, .int .i64 0, .int .i64 0, .slice none 0 0, .slice none 0 0, .int .i64 0, .int .i64 0, .int .i64 0, .int .i64 0, .int .i64 0, .int .i64 0, .bool false] [.int .i64 0, .int .i64 0, .int .i64 0, .int .i64 0, .slice none 0 0, .slice none 0 0, .int .i64 0, .int .i64 0, .int .i64 0, .int .i64 0, .int .i64 0, .int .i64 0, .bool false] rfl rfl rfl HM.out.res rfl (by kernel_rfl) (by kernel_rfl) fun wv hpt hov => ?_
      have HPT := Lib.hid hpt
      have HO := Lib.hid (HM.out.ended hov)
      clear hpt hov
      go_wp2_with fail
      refine bodyPost_ret (v := .tuple #[.agg #[.int .i64 0, .int .i64 0, .int .i64 0, .int .i64 0, .slice none 0 0, .slice none 0 0, .int .i64 0, .int .i64 0, .int .i64 0, .int .i64 0, .int .i64 0, .int .i64 0, .bool false], .bool false]) ?_ rfl ?_
      · exact (ret_cell_tmp (p := 2) (q := 3) (ty := 31) (by rfl) _ HPT.out _ (by rfl) Try.underlying31 rfl (by kernel_rfl)).trans (by rfl)
      · exact ⟨⟨lay0, by rw [HNO.out.1, HNO.out.2]; rfl, by rw [HNO.out.1]; exact has0 _⟩, HO.out.2⟩
    · have h2 : 15 < k := by omega
      clear hk
      go_upto_region 5 with (fail)
      apply wp_region_lit
      refine wpList_buildTo rfl 31 _ rfl (some 28) rfl #[.int .i64 0, .int .i64 0, .int .i64 0, .int .i64 0, .slice none 0 0, .slice none 0 0, .int .i64 0, .int .i64 0, .int .i64 0, .int .i64 0, .int .i64 0, .int .i64 0, .bool false] (by kernel_rfl) ?_
      refine wpList_store_cells rfl 31 _ _ rfl w.heap.size #[.int .i64 0, .int .i64 0, .int .i64 0, .int .i64 0, .slice none 0 0, .slice none 0 0, .int .i64 0, .int .i64 0, .int .i64 0, .int .i64 0, .int .i64 0, .int .i64 0, .bool false] [.int .i64 0, .int .i64 0, .int .i64 0, .int .i64 0, .slice none 0 0, .slice none 0 0, .int .i64 0, .int .i64 0, .int .i64 0, .int .i64 0, .int .i64 0, .int .i64 0, .bool false] rfl rfl rfl HM.out.res rfl (by kernel_rfl) (by kernel_rfl) fun wv hpt hov => ?_
      have HPT := Lib.hid hpt
      have HO := Lib.hid (HM.out.ended hov)
      clear hpt hov
      go_wp2_with fail
      refine bodyPost_ret (v := .tuple #[.agg #[.int .i64 0, .int .i64 0, .int .i64 0, .int .i64 0, .slice none 0 0, .slice none 0 0, .int .i64 0, .int .i64 0, .int .i64 0, .int .i64 0, .int .i64 0, .int .i64 0, .bool false], .bool false]) ?_ rfl ?_
      · exact (ret_cell_tmp (p := 2) (q := 3) (ty := 31) (by rfl) _ HPT.out _ (by rfl) Try.underlying31 rfl (by kernel_rfl)).trans (by rfl)
      · exact ⟨⟨lay0, by rw [HNO.out.1, HNO.out.2]; rfl, by rw [HNO.out.1]; exact has0 _⟩, HO.out.2⟩
end Go.Proofs.Ytfnkjdkckpdfhaa.Msg
