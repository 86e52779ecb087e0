/-
  Layer 18: May and Hold of a table of leases. Conditions: none.
-/
import Derived.Test.YtiobblmagjbhjaaLeaHas
namespace Go.Proofs.Ytiobblmagjbhjaa.Lea
set_option maxRecDepth 100000
open Go.RowKit Go.Deep Go.Proofs.Ytiobblmagjbhjaa.Mem

section
variable {B tb g : Nat} {w w1 : World} {T : List Sv}
def lt3 (t : Lt) : List Value := [.int .i64 t.node, .int .i64 t.epoch, .int .i64 t.seq]
set_option maxHeartbeats 1000000 in
theorem hold_any (h : Tb B w tb g T) {k : Nat} (hk : k < T.length) (who : Lt) (u : Int) :
    Calls Try.prog 22 #[.pointer (some ⟨g, k * 5, none⟩), .agg #[.int .i64 who.node, .int .i64 who.epoch, .int .i64 who.seq], .int .i64 u] w fun e w' => e = .returned (.tuple #[]) ∧ Tb B w' tb g (set1 who u T (k : Int)) ∧ Only (fun j => j = g) w w' := by
  obtain ⟨wa, hwa⟩ : ∃ W, W = w.alloc (.cells #[.int .i64 who.node, .int .i64 who.epoch, .int .i64 who.seq] 34) := ⟨_, rfl⟩
  have hba : Below w.heap.size w wa := by rw [hwa]; exact below_alloc _ _
  have hca : Cells wa w.heap.size 34 (lt3 who) := by rw [hwa]; exact cells_new _ _ _ _ rfl
  have z0 := hca.cell (j := 0) rfl
  have z1 := hca.cell (j := 1) rfl
  have z2 := hca.cell (j := 2) rfl
  have ha := h.later hba
  have hel := ha.elem hk
  have hset : set1 who u T (k : Int) = T.set k (holdS who u T[k]) := by
    unfold set1
    rw [Int.toNat_natCast, ofT_nat hk]
  have hput := ha.put hk (holdS who u T[k]) (fun e => by cases e)
  have HP : Hid (Tb B (sets5 wa g (k * 5) (holdS who u T[k])) tb g (set1 who u T (k : Int))) := Lib.hid (by rw [hset]; exact hput)
  have HO : Hid (∀ s, Only (fun j => j = g) w (sets5 wa g (k * 5) s)) := Lib.hid fun s => (Only.of_below hba).trans (only_sets5 wa g (k * 5) s) fun _ _ e => e
  obtain ⟨s, hs⟩ : ∃ s, T[k] = s := ⟨_, rfl⟩
  rw [hs] at hel HP
  have x0 : wa.cell? ⟨g, k * 5, none⟩ = _ := hel.cell (j := 0) rfl
  have x1 := hel.cell (j := 1) rfl
  have x2 := hel.cell (j := 2) rfl
  have x3 := hel.cell (j := 3) rfl
  have x4 := hel.cell (j := 4) rfl
  have f0 : wa.frozen? ⟨g, k * 5, none⟩ = false := hel.frozen (j := 0) (by simp [Sv.vals])
  have f1 := hel.frozen (j := 1) (by simp [Sv.vals])
  have f2 := hel.frozen (j := 2) (by simp [Sv.vals])
  have f3 := hel.frozen (j := 3) (by simp [Sv.vals])
  have f4 := hel.frozen (j := 4) (by simp [Sv.vals])
  obtain ⟨⟨sn, se, sq⟩, st, sh⟩ := s
  dsimp only at x0 x1 x2 x3 x4
  clear h hba hca ha hel hset hput hs hk
  cases sh with
  | false =>
    go_enter Try.func22, Try.ntmps22
    go_upto_region 1 with (fail)
    rw [← hwa]
    clear hwa
    have HP2 := HP.out
    have HO2 := HO.out (holdS who u ⟨⟨sn, se, sq⟩, st, false⟩)
    dsimp only [sets5, holdS] at HP2 HO2
    rw [if_neg Bool.false_ne_true] at HP2 HO2
    have HP3 := Lib.hid (And.intro HP2 HO2)
    clear HP2 HO2 HP HO
    go_wp2_with fail
    go_returns
    exact ⟨rfl, HP3.out⟩
  | true =>
    go_enter Try.func22, Try.ntmps22
    go_upto_region 1 with (fail)
    rw [← hwa]
    clear hwa
    have HP2 := HP.out
    have HO2 := HO.out (holdS who u ⟨⟨sn, se, sq⟩, st, true⟩)
    dsimp only [sets5, holdS] at HP2 HO2
    rw [if_pos rfl] at HP2 HO2
    by_cases hle : u < st
    · rw [Int.max_eq_right (by omega)] at HP2 HO2
      have HP3 := Lib.hid (And.intro HP2 HO2)
      clear HP2 HO2 HP HO
      go_wp2_with fail
      go_returns
      exact ⟨rfl, HP3.out⟩
    · rw [Int.max_eq_left (by omega)] at HP2 HO2
      have HP3 := Lib.hid (And.intro HP2 HO2)
      clear HP2 HO2 HP HO
      go_wp2_with fail
      go_returns
      exact ⟨rfl, HP3.out⟩
set_option maxHeartbeats 1000000 in
theorem May_any (h : Tb B w tb g T) (who : Lt) {L : Option Addr} {l : List Int} {lc : Nat} (hr : IRow w L l) (hn : l.length ≤ 1000) :
    Calls Try.prog 17 #[.pointer (some ⟨tb, 0, none⟩), .agg #[.int .i64 who.node, .int .i64 who.epoch, .int .i64 who.seq], .slice L l.length lc] w fun e w' => e = .returned (.bool (mayT T who l)) ∧ Below w.heap.size w w' := by
  obtain ⟨wa, hwa⟩ : ∃ W, W = w.alloc (.cells #[.int .i64 who.node, .int .i64 who.epoch, .int .i64 who.seq] 34) := ⟨_, rfl⟩
  have hba : Below w.heap.size w wa := by rw [hwa]; exact below_alloc _ _
  have hca : Cells wa w.heap.size 34 (lt3 who) := by rw [hwa]; exact cells_new _ _ _ _ rfl
  have HC := Lib.hid (Has_any (lc := lc) (h.later hba) (hr.later hba) hn)
  obtain ⟨n, hnn⟩ : ∃ n, l.length = n := ⟨_, rfl⟩
  rw [hnn] at HC hn ⊢
  have HN := Lib.hid hnn
  have HR := Lib.hid hr
  have HH := Lib.hid h
  have HB := Lib.hid hba
  have HCA := Lib.hid hca
  obtain ⟨hs, hhs⟩ : ∃ b, hasT T.length l = b := ⟨_, rfl⟩
  rw [hhs] at HC
  unfold mayT
  rw [hhs]
  clear h hba hca hr hnn hhs
  cases hs with
  | false =>
    go_enter Try.func17, Try.ntmps17
    go_upto_region 1 with (fail)
    rw [← hwa]
    clear hwa
    go_wp2_with fail
    refine HC.out.mono ?_
    rintro e w2 ⟨rfl, hw2⟩
    rw [hw2]
    go_wp2_with fail
    go_returns
    exact ⟨rfl, HB.out⟩
  | true =>
    obtain ⟨ans, hans⟩ : ∃ b, mayL T who l = b := ⟨_, rfl⟩
    have HA := Lib.hid hans
    rw [hans, Bool.true_and]
    clear hans
    go_enter Try.func17, Try.ntmps17
    go_upto_region 1 with (fail)
    rw [← hwa]
    clear hwa
    go_wp2_with fail
    refine HC.out.mono ?_
    rintro e w2 ⟨rfl, hw2⟩
    rw [hw2]
    clear hw2 HC w2
    obtain ⟨xb, hxb⟩ : ∃ x, w.heap.size = x := ⟨_, rfl⟩
    have HCX : Hid (Cells wa xb 34 (lt3 who)) := Lib.hid (by rw [← hxb]; exact HCA.out)
    have HBX : Hid (∀ wr, Below wa.heap.size wa wr → Below w.heap.size w wr) := Lib.hid fun wr hb => HB.out.trans (hb.mono HB.out.size)
    have HT : Hid (Tb B wa tb g T) := Lib.hid (HH.out.later HB.out)
    have HRA : Hid (IRow wa L l) := Lib.hid (HR.out.later HB.out)
    rw [hxb]
    clear hxb HB HCA HH HR
    go_wp2_with fail
    go_loopw [8, 9, 10, 17] (fun _ _ _ i wr => ∃ k : Nat, k ≤ n ∧ i = .int .i64 (k : Int) ∧ Hid (mayL T who (l.take k) = true) ∧ Hid (Below wa.heap.size wa wr)) (fun _ _ _ i _ => n - (intOf i).toNat)
    case atStart => exact ⟨0, Nat.zero_le _, rfl, Lib.hid rfl, Lib.hid (Below.refl _ _)⟩
    case round =>
      obtain ⟨k, hk, rfl, HX, HBR⟩ := hrel
      by_cases hlt : k < n
      · have hkl : k < l.length := by rw [HN.out]; exact hlt
        obtain ⟨b, off, rfl, hc⟩ := (HRA.out.later HBR.out) k hkl
        obtain ⟨y, hy⟩ : ∃ y, l[k] = y := ⟨_, rfl⟩
        rw [hy] at hc
        have HTK : Hid (l.take (k + 1) = l.take k ++ [y]) := Lib.hid (by rw [List.take_add_one, List.getElem?_eq_getElem hkl, hy]; rfl)
        have HM : Hid (y ∈ l) := Lib.hid (by rw [← hy]; exact List.getElem_mem hkl)
        have HO := Lib.hid (Of_any (HT.out.later HBR.out) y)
        obtain ⟨s, hs⟩ : ∃ s, ofT T y = s := ⟨_, rfl⟩
        rw [hs] at HO
        unfold ofV at HO
        have HS := Lib.hid hs
        clear hy hkl hs
        go_wp2_with fail
        refine HO.out.mono ?_
        rintro e w2 ⟨rfl, hb2⟩
        obtain ⟨w3, hw3⟩ : ∃ W, W = w2.alloc (.cells #[.int .i64 s.tid.node, .int .i64 s.tid.epoch, .int .i64 s.tid.seq, .int .i64 s.til] 48) := ⟨_, rfl⟩
        have hb3 : Below w2.heap.size w2 w3 := by rw [hw3]; exact below_alloc _ _
        have hc3 : Cells w3 w2.heap.size 48 [.int .i64 s.tid.node, .int .i64 s.tid.epoch, .int .i64 s.tid.seq, .int .i64 s.til] := by rw [hw3]; exact cells_new _ _ _ _ rfl
        have hbr := HBR.out.trans ((hb2.trans (hb3.mono hb2.size)).mono HBR.out.size)
        have hx := HCX.out.later hbr
        have q0 := hx.cell (j := 0) rfl
        have q1 := hx.cell (j := 1) rfl
        have q2 := hx.cell (j := 2) rfl
        have p0 := hc3.cell (j := 0) rfl
        have p1 := hc3.cell (j := 1) rfl
        have p2 := hc3.cell (j := 2) rfl
        have HBN := Lib.hid hbr
        have hq := lt_neq s.tid who
        clear hb2 hb3 hc3 hbr hx HO hc
        go_upto_region 7 with (fail)
        rw [← hw3]
        clear hw3
        obtain ⟨hh, hhe⟩ : ∃ b, s.held = b := ⟨_, rfl⟩
        have HHE := Lib.hid hhe
        rw [hhe]
        obtain ⟨d, hd⟩ : ∃ b, decide (s.tid = who) = b := ⟨_, rfl⟩
        have HD := Lib.hid hd
        rw [hd] at hq
        clear hhe hd
        have HX2 : Hid ((hh && !d) = false → mayL T who (l.take (k + 1)) = true) := Lib.hid fun e => by
          have h3 := HX.out
          rw [HTK.out]
          unfold mayL at h3 ⊢
          rw [List.all_append, h3, List.all_cons, HS.out]
          unfold mayS
          rw [HHE.out, HD.out, e]
          rfl
        have HF : Hid ((hh && !d) = true → ans = false) := Lib.hid fun e => by
          rw [← HA.out]
          unfold mayL
          rw [List.all_eq_false]
          refine ⟨y, HM.out, ?_⟩
          rw [HS.out]
          unfold mayS
          rw [HHE.out, HD.out, e]
          decide
        cases hh with
        | false =>
          have HX3 := Lib.hid (HX2.out rfl)
          go_wp2_with fail
          go_roundw
          case rel => exact ⟨k + 1, by omega, by go_num, HX3, HBN⟩
          case measure => simp [intOf]; omega
        | true =>
          cases d with
          | true =>
            have HX3 := Lib.hid (HX2.out rfl)
            go_wp2_with fail
            go_roundw
            case rel => exact ⟨k + 1, by omega, by go_num, HX3, HBN⟩
            case measure => simp [intOf]; omega
          | false =>
            have HF3 := Lib.hid (HF.out rfl)
            go_wp2_with fail
            go_returns
            exact ⟨ret_val (congrArg Value.bool HF3.out.symm), HBX.out _ HBN.out⟩
      · obtain rfl : k = n := by omega
        have HF : Hid (ans = true) := Lib.hid (by
          have h3 := HX.out
          rw [List.take_of_length_le (Nat.le_of_eq HN.out)] at h3
          rw [← HA.out]
          exact h3)
        go_wp2_with fail
        go_returns
        exact ⟨ret_val (congrArg Value.bool HF.out.symm), HBX.out _ HBR.out⟩
set_option maxHeartbeats 1000000 in
theorem Hold_any (h : Tb B w tb g T) (who : Lt) (u : Int) {L : Option Addr} {l : List Int} {lc : Nat} (hr : IRow w L l) (hg : l ≠ [] → ∀ k, blk L = some k → k ≠ g) (hn : l.length ≤ 1000) :
    Calls Try.prog 10 #[.pointer (some ⟨tb, 0, none⟩), .agg #[.int .i64 who.node, .int .i64 who.epoch, .int .i64 who.seq], .int .i64 u, .slice L l.length lc] w fun e w' => e = .returned (.int .i64 (errT T who l)) ∧ Tb B w' tb g (holdT T who u l) ∧ Only (fun j => j = g) w w' := by
  obtain ⟨wa, hwa⟩ : ∃ W, W = w.alloc (.cells #[.int .i64 who.node, .int .i64 who.epoch, .int .i64 who.seq] 34) := ⟨_, rfl⟩
  have hba : Below w.heap.size w wa := by rw [hwa]; exact below_alloc _ _
  have hca : Cells wa w.heap.size 34 (lt3 who) := by rw [hwa]; exact cells_new _ _ _ _ rfl
  have q0 := hca.cell (j := 0) rfl
  have q1 := hca.cell (j := 1) rfl
  have q2 := hca.cell (j := 2) rfl
  have HC := Lib.hid (Has_any (lc := lc) (h.later hba) (hr.later hba) hn)
  have HMY := Lib.hid (May_any (lc := lc) (h.later hba) who (hr.later hba) hn)
  have HIR : Hid (∀ wr, Only (fun j => j = g) wa wr → IRow wr L l) := Lib.hid fun wr ho k hk => by
    obtain ⟨b, off, e, hc⟩ := (hr.later hba) k hk
    refine ⟨b, off, e, ?_⟩
    have hne : b ≠ g := hg (List.ne_nil_of_length_pos (by omega)) b (by rw [e]; rfl)
    have hlt := block_of_cell hc
    have e2 := ho.block b hlt hne
    unfold World.cell? at hc ⊢
    rw [e2]
    exact hc
  obtain ⟨n, hnn⟩ : ∃ n, l.length = n := ⟨_, rfl⟩
  rw [hnn] at HC HMY hn ⊢
  have HN := Lib.hid hnn
  have HH := Lib.hid h
  have HB := Lib.hid hba
  have HCA := Lib.hid hca
  have HXG : Hid (w.heap.size ≠ g) := Lib.hid fun e => by have := h.glt.2; omega
  obtain ⟨hs, hhs⟩ : ∃ b, hasT T.length l = b := ⟨_, rfl⟩
  have HHS := Lib.hid hhs
  rw [hhs] at HC
  unfold mayT at HMY
  rw [hhs] at HMY
  unfold holdT errT
  rw [hhs]
  clear h hba hca hr hnn hhs hg
  cases hs with
  | false =>
    rw [if_neg Bool.false_ne_true, if_neg (by decide)]
    clear HMY
    go_enter Try.func10, Try.ntmps10
    go_upto_region 1 with (fail)
    rw [← hwa]
    clear hwa
    go_wp2_with fail
    refine HC.out.mono ?_
    rintro e w2 ⟨rfl, hw2⟩
    rw [hw2]
    go_wp2_with fail
    go_returns
    exact ⟨rfl, HH.out.later HB.out, Only.of_below HB.out⟩
  | true =>
    obtain ⟨my, hmy⟩ : ∃ b, mayL T who l = b := ⟨_, rfl⟩
    rw [hmy, Bool.true_and] at HMY
    rw [hmy]
    clear hmy
    rw [if_pos rfl]
    cases my with
    | false =>
      rw [if_neg Bool.false_ne_true, if_neg (by decide)]
      go_enter Try.func10, Try.ntmps10
      go_upto_region 1 with (fail)
      rw [← hwa]
      clear hwa
      go_wp2_with fail
      refine HC.out.mono ?_
      rintro e w2 ⟨rfl, hw2⟩
      rw [hw2]
      clear hw2 w2 HC
      go_wp2_with fail
      refine HMY.out.mono ?_
      rintro e w3 ⟨rfl, hb3⟩
      have HB3 := Lib.hid (HB.out.trans (hb3.mono HB.out.size))
      clear hb3 q0 q1 q2
      go_wp2_with fail
      go_returns
      exact ⟨rfl, HH.out.later HB3.out, Only.of_below HB3.out⟩
    | true =>
      rw [if_pos rfl, if_pos rfl]
      go_enter Try.func10, Try.ntmps10
      go_upto_region 1 with (fail)
      rw [← hwa]
      clear hwa
      go_wp2_with fail
      refine HC.out.mono ?_
      rintro e w2 ⟨rfl, hw2⟩
      rw [hw2]
      clear hw2 w2 HC
      go_wp2_with fail
      refine HMY.out.mono ?_
      rintro e w3 ⟨rfl, hb3⟩
      have HT3 : Hid (Tb B w3 tb g T) := Lib.hid ((HH.out.later HB.out).later hb3)
      have HO3 : Hid (Only (fun j => j = g) wa w3) := Lib.hid (Only.of_below hb3)
      obtain ⟨xb, hxb⟩ : ∃ x, w.heap.size = x := ⟨_, rfl⟩
      have HCX : Hid (∀ wr, Only (fun j => j = g) wa wr → Cells wr xb 34 (lt3 who)) := Lib.hid fun wr ho => by rw [← hxb]; exact cells_only HCA.out ho HXG.out
      rw [hxb]
      clear hb3 q0 q1 q2 hxb HMY
      go_wp2_with fail
      go_loopw [10, 22] (fun _ i wr => ∃ k : Nat, k ≤ n ∧ i = .int .i64 (k : Int) ∧ Hid (Tb B wr tb g (setsT who u T (l.take k))) ∧ Hid (Only (fun j => j = g) wa wr)) (fun _ i _ => n - (intOf i).toNat)
      case atStart => exact ⟨0, Nat.zero_le _, rfl, HT3, HO3⟩
      case round =>
        clear HT3 HO3
        obtain ⟨j, hj, rfl, HTR, HOR⟩ := hrel
        by_cases hlt : j < n
        · have hkl : j < l.length := by rw [HN.out]; exact hlt
          obtain ⟨b, off, rfl, hc⟩ := (HIR.out wr HOR.out) j hkl
          obtain ⟨y, hy⟩ : ∃ y, l[j] = y := ⟨_, rfl⟩
          rw [hy] at hc
          have htk : l.take (j + 1) = l.take j ++ [y] := by rw [List.take_add_one, List.getElem?_eq_getElem hkl, hy]; rfl
          have hin : inT T.length y = true := by
            have h3 := HHS.out
            unfold hasT at h3
            rw [List.all_eq_true] at h3
            exact h3 y (by rw [← hy]; exact List.getElem_mem hkl)
          obtain ⟨k, rfl, hkT⟩ := inT_nat hin
          obtain ⟨T1, hT1⟩ : ∃ T1, setsT who u T (l.take j) = T1 := ⟨_, rfl⟩
          have hl1 : T1.length = T.length := by rw [← hT1]; exact setsT_len ..
          have HTN : Hid (setsT who u T (l.take (j + 1)) = set1 who u T1 (k : Int)) := Lib.hid (by rw [htk, setsT_more, hT1])
          have hh1 := HTR.out
          rw [hT1] at hh1
          have HH1 := Lib.hid hh1
          obtain ⟨m, hm⟩ : ∃ m, T1.length = m := ⟨_, rfl⟩
          have HM1 := Lib.hid hm
          have HKM : Hid (k < m) := Lib.hid (by omega)
          have HHO := Lib.hid fun (wi : World) (hb : Below wr.heap.size wr wi) => (hold_any (hh1.later hb) (k := k) (by omega) who u).mono fun e w' (z : e = .returned (.tuple #[]) ∧ Tb B w' tb g (set1 who u T1 (k : Int)) ∧ Only (fun j => j = g) wi w') => (show e = .returned (.tuple #[]) ∧ Tb B w' tb g (set1 who u T1 (k : Int)) ∧ Only (fun j => j = g) wr w' from ⟨z.1, z.2.1, (Only.of_below hb).trans z.2.2 fun _ _ e => e⟩)
          have HXB : Hid (Cells wr xb 34 (lt3 who)) := Lib.hid (HCX.out wr HOR.out)
          clear hkl hy htk hin hkT hT1 hl1 hh1 hm HTR
          go_upto_region 8 with (fail)
          refine Reg.region_inv (by kernel_rfl) (fun i => ([some (.pointer (some ⟨tb, 0, none⟩)), some (.pointer (some ⟨tb, 0, none⟩)), some (.pointer (some ⟨tb, 0, none⟩)), some (.slice (some ⟨g, 0, none⟩) m m), some (.int .i64 (k : Int)), some (.pointer (some ⟨g, k * 5, none⟩)), some (.agg #[.int .i64 who.node, .int .i64 who.epoch, .int .i64 who.seq]), some (.int .i64 u), some (.tuple #[])] : List (Option Value)).getD i none) (fun D V W => (D 8 = false → Below wr.heap.size wr W) ∧ (D 8 = true → Tb B W tb g (set1 who u T1 (k : Int)) ∧ Only (fun j => j = g) wr W)) (fun V => [(some 26, V 0), (some 27, V 1), (some 28, V 2), (some 29, V 3), (some 30, V 4), (some 31, V 5), (some 32, V 6), (some 33, V 7), (some 34, V 8)]) (by kernel_rfl) (by kernel_rfl) (fun V => rfl) ?_ ?_ ?_
          · intro V
            exact ⟨fun _ => (Below.refl _ _).drew, fun e => (by cases e)⟩
          · intro i o ho
            have hi : i < 9 := (Array.getElem?_eq_some_iff.1 ho).1
            rcases i with _ | _ | _ | _ | _ | _ | _ | _ | _ | i
            rotate_right
            · omega
            all_goals obtain rfl := Option.some.inj ho
            all_goals intro D V ρ wi hE hI hDi hT hF hs hd hk
            · have e0 : ρ (.tmp 0) = .pointer (some ⟨tb, 0, none⟩) := hs 0; clear hT hF hk
              exact Reg.Gives.value (v := .pointer (some ⟨tb, 0, none⟩)) (w' := wi) (by go_simp) ⟨fun x h => Option.some.inj h, hI⟩
            · have e26 : ρ (.tmp 26) = .pointer (some ⟨tb, 0, none⟩) := (hd 0 26).trans (hk 0 _ rfl); clear hT hF hk
              exact Reg.Gives.value (v := .pointer (some ⟨tb, 0, none⟩)) (w' := wi) (by go_simp) ⟨fun x h => Option.some.inj h, hI⟩
            · have e27 : ρ (.tmp 27) = .pointer (some ⟨tb, 0, none⟩) := (hd 1 27).trans (hk 1 _ rfl); clear hT hF hk
              exact Reg.Gives.value (v := .pointer (some ⟨tb, 0, none⟩)) (w' := wi) (by go_simp) ⟨fun x h => Option.some.inj h, hI⟩
            · have e28 : ρ (.tmp 28) = .pointer (some ⟨tb, 0, none⟩) := (hd 2 28).trans (hk 2 _ rfl); have hD8 : D 8 = false := hF 2 8; clear hT hF; have hL : Below wr.heap.size wr wi := hI.1 hD8; have x0 := (HH1.out.later hL).box.cell (j := 0) rfl
              rw [HM1.out] at x0
              exact Reg.Gives.value (v := .slice (some ⟨g, 0, none⟩) m m) (w' := wi) (by go_simp) ⟨fun x h => Option.some.inj h, hI⟩
            · have e10 : ρ (.tmp 10) = .int .i64 (k : Int) := hs 10; clear hT hF hk
              exact Reg.Gives.value (v := .int .i64 (k : Int)) (w' := wi) (by go_simp) ⟨fun x h => Option.some.inj h, hI⟩
            · have e29 : ρ (.tmp 29) = .slice (some ⟨g, 0, none⟩) m m := (hd 3 29).trans (hk 3 _ rfl); have e30 : ρ (.tmp 30) = .int .i64 (k : Int) := (hd 4 30).trans (hk 4 _ rfl); clear hT hF
              have z1 : (0 : Int) ≤ (k : Int) := by omega
              have z2 : (k : Int) < (m : Int) := by have := HKM.out; omega
              have z3 : k < m := HKM.out
              exact Reg.Gives.value (v := .pointer (some ⟨g, k * 5, none⟩)) (w' := wi) (by go_simp) ⟨fun x h => Option.some.inj h, hI⟩
            · have e5 : ρ (.tmp 5) = .pointer (some ⟨xb, 0, none⟩) := hs 5; have hD8 : D 8 = false := hF 1 8; clear hT hF; have hL : Below wr.heap.size wr wi := hI.1 hD8; have hq := HXB.out.later hL; have q0 := hq.cell (j := 0) rfl; have q1 := hq.cell (j := 1) rfl; have q2 := hq.cell (j := 2) rfl
              exact Reg.Gives.value (v := .agg #[.int .i64 who.node, .int .i64 who.epoch, .int .i64 who.seq]) (w' := wi) (by go_simp) ⟨fun x h => Option.some.inj h, hI⟩
            · have e2 : ρ (.tmp 2) = .int .i64 u := hs 2; clear hT hF hk
              exact Reg.Gives.value (v := .int .i64 u) (w' := wi) (by go_simp) ⟨fun x h => Option.some.inj h, hI⟩
            · have e31 : ρ (.tmp 31) = .pointer (some ⟨g, k * 5, none⟩) := (hd 5 31).trans (hk 5 _ rfl); have e32 : ρ (.tmp 32) = .agg #[.int .i64 who.node, .int .i64 who.epoch, .int .i64 who.seq] := (hd 6 32).trans (hk 6 _ rfl); have e33 : ρ (.tmp 33) = .int .i64 u := (hd 7 33).trans (hk 7 _ rfl); have hf := hE.func; have hD8 : D 8 = false := hDi; clear hT hF
              have hL : Below wr.heap.size wr wi := hI.1 hD8
              refine Reg.Gives.call (f := 22) (args := #[.pointer (some ⟨g, k * 5, none⟩), .agg #[.int .i64 who.node, .int .i64 who.epoch, .int .i64 who.seq], .int .i64 u]) (w' := wi) (by go_simp) ?_
              refine (HHO.out wi hL).mono ?_
              rintro e w'' ⟨rfl, hn⟩
              exact ⟨_, rfl, fun x h => Option.some.inj h, by show (true = false → Below wr.heap.size wr w'') ∧ (true = true → Tb B w'' tb g (set1 who u T1 (k : Int)) ∧ Only (fun j => j = g) wr w''); exact ⟨fun e => (by cases e), fun _ => hn⟩⟩
          · intro V wf hk hI
            simp only [Reg.putsO, List.foldl_cons, List.foldl_nil, Act.put, List.setIfInBounds_toArray, List.set_cons_succ, List.set_cons_zero]
            replace hI : ((fun _ => true) 8 = false → Below wr.heap.size wr wf) ∧ ((fun _ => true) 8 = true → Tb B wf tb g (set1 who u T1 (k : Int)) ∧ Only (fun j => j = g) wr wf) := hI
            clear hk
            have HN2 := Lib.hid (hI.2 rfl)
            clear hI
            have HTF : Hid (Tb B wf tb g (setsT who u T (l.take (j + 1)))) := Lib.hid (by rw [HTN.out]; exact HN2.out.1)
            have HOF : Hid (Only (fun j => j = g) wa wf) := Lib.hid (HOR.out.trans HN2.out.2 fun _ _ e => e)
            clear HN2 hc
            go_wp2_with fail
            go_roundw
            case rel => exact ⟨j + 1, by omega, by go_num, HTF, HOF⟩
            case measure => simp [intOf]; omega
        · obtain rfl : j = n := by omega
          have HTF : Hid (Tb B wr tb g (setsT who u T l)) := Lib.hid (by
            have h3 := HTR.out
            rw [List.take_of_length_le (Nat.le_of_eq HN.out)] at h3
            exact h3)
          go_wp2_with fail
          go_returns
          exact ⟨rfl, HTF.out, (Only.of_below HB.out).trans HOR.out fun _ _ e => e⟩
end
end Go.Proofs.Ytiobblmagjbhjaa.Lea
