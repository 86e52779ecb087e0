/-
  P15.1: Any node's parent, children, neighbours and depth, and how far it is at most, is what the document says. Conditions: none.
-/
import Derived.Test.YtbchgnlfkcgklaaSpnLaw
namespace Go.Proofs.Ytbchgnlfkcgklaa.SpanTrees
set_option maxRecDepth 100000
open Go.ChangeShapes Go.WideShapes Go.ChangeAt Go.RowKit Go.Deep Go.Proofs.Ytbchgnlfkcgklaa.Mem Go.Proofs.Ytbchgnlfkcgklaa.Spn

def allK (n m : Int) (k : Nat) : List Nat := (List.range' 1 k).filter fun x => edgeI n (x : Int) m
def chK (n m : Int) (k : Nat) : List Nat := (List.range' 1 k).filter fun x => edgeI n (x : Int) m && decide (n < (x : Int))
theorem edge_none {n m x : Int} (h : hasB n m = false) : edgeI n x m = false := by
  have := of_decide_eq_false h
  unfold edgeI
  rw [decide_eq_false (by omega), Bool.false_and]
theorem edge_some {a b x : Nat} (h1 : 1 ≤ a) (h2 : a ≤ b) (h3 : b ≤ 16) (hx : 1 ≤ x) : edgeI (a : Int) (x : Int) (b : Int) = (edgeB a x && decide (x ≤ b)) := by
  unfold edgeI
  rw [Int.toNat_natCast, Int.toNat_natCast, Bool.and_comm]
  congr 1
  exact decide_eq_decide.2 (by omega)
theorem all_eq (n m : Int) : allK n m 16 = nearI n m := by
  unfold allK nearI
  cases hb : hasB n m with
  | false => rw [if_neg Bool.false_ne_true, List.filter_eq_nil_iff.2 fun x _ => by rw [edge_none hb]; exact Bool.false_ne_true]
  | true =>
    obtain ⟨a, b, rfl, rfl, h1, h2, h3⟩ := has_nat hb
    rw [if_pos rfl, Int.toNat_natCast, Int.toNat_natCast, (near_eq (by omega) h3 h1 h2).1]
    exact List.filter_congr fun x hx => edge_some h1 h2 h3 (by have := (List.mem_range'_1.1 hx); omega)
theorem ch_eq (n m : Int) : chK n m 16 = childI n m := by
  unfold chK childI
  cases hb : hasB n m with
  | false => rw [if_neg Bool.false_ne_true, List.filter_eq_nil_iff.2 fun x _ => by rw [edge_none hb]; exact Bool.false_ne_true]
  | true =>
    obtain ⟨a, b, rfl, rfl, h1, h2, h3⟩ := has_nat hb
    rw [if_pos rfl, Int.toNat_natCast, Int.toNat_natCast, (near_eq (by omega) h3 h1 h2).2]
    refine List.filter_congr fun x hx => ?_
    rw [edge_some h1 h2 h3 (by have := (List.mem_range'_1.1 hx); omega), Bool.and_assoc]
    congr 2
    exact decide_eq_decide.2 (by omega)
theorem all_one (n m : Int) (k : Nat) : allK n m (k + 1) = allK n m k ++ if edgeI n ((k + 1 : Nat) : Int) m then [k + 1] else [] := by
  unfold allK
  rw [List.range'_concat, List.filter_append, Nat.one_mul, Nat.add_comm 1 k, List.filter_cons, List.filter_nil]
theorem ch_one (n m : Int) (k : Nat) : chK n m (k + 1) = chK n m k ++ if edgeI n ((k + 1 : Nat) : Int) m && decide (n < ((k + 1 : Nat) : Int)) then [k + 1] else [] := by
  unfold chK
  rw [List.range'_concat, List.filter_append, Nat.one_mul, Nat.add_comm 1 k, List.filter_cons, List.filter_nil]
theorem all_len (n m : Int) (k : Nat) : (allK n m k).length ≤ k := by
  have := List.length_filter_le (fun x : Nat => edgeI n (x : Int) m) (List.range' 1 k)
  rw [List.length_range'] at this
  exact this
theorem ch_len (n m : Int) (k : Nat) : (chK n m k).length ≤ k := by
  have := List.length_filter_le (fun x : Nat => edgeI n (x : Int) m && decide (n < (x : Int))) (List.range' 1 k)
  rw [List.length_range'] at this
  exact this
set_option maxHeartbeats 4000000 in
theorem walk (n m : Int) (hn : n ≤ 9223372036854775807) (w : World) : Calls Try.prog 3 #[.int .i64 n, .int .i64 m] w fun e w' => e = .returned (.bool true) ∧ Below w.heap.size w w' := by
  have HA := Lib.hid (awake_any w)
  have HN := Lib.hid hn
  obtain ⟨par, hpar⟩ : ∃ p, parI n = p := ⟨_, rfl⟩
  obtain ⟨dep, hdep⟩ : ∃ d, depI n = d := ⟨_, rfl⟩
  have HPA : Hid (∀ wq, Calls Try.prog 9 #[.int .i64 n] wq fun e w' => e = .returned (.int .i64 par) ∧ w' = wq) := Lib.hid fun wq => by rw [← hpar]; exact Parent_any n hn wq
  have HDE : Hid (∀ wq, Calls Try.prog 10 #[.int .i64 n] wq fun e w' => e = .returned (.int .i64 (dep : Int)) ∧ w' = wq) := Lib.hid fun wq => by rw [← hdep]; exact Depth_any n hn wq
  have HPAR := Lib.hid hpar
  have HDEP := Lib.hid hdep
  clear hpar hdep hn
  go_enter Try.func3, Try.ntmps3
  go_wp2_with fail
  refine HA.out.mono ?_
  rintro e w0 ⟨rfl, hb0⟩
  have HB0 := Lib.hid hb0
  have HP0 : Hid (Pst w0.heap.size w0 w0 none 0 none 0 [] []) := Lib.hid ⟨OwnG.nil _ _ _ _ _, OwnG.nil _ _ _ _ _, fun k e => (by cases e), Below.refl _ _, Nat.le_refl _⟩
  clear hb0 HA
  go_wp2_with fail
  go_loopw [5, 6, 7] (fun c a i wr => ∃ (k : Nat) (A : Option Addr) (ac : Nat) (C : Option Addr) (cc : Nat), k ≤ 16 ∧ c = .slice C (chK n m k).length cc ∧ a = .slice A (allK n m k).length ac ∧ i = .int .i64 ((k + 1 : Nat) : Int) ∧ Hid (Pst w0.heap.size w0 wr A ac C cc (allK n m k) (chK n m k))) (fun _ _ i _ => 17 - (intOf i).toNat)
  case atStart => exact ⟨0, none, 0, none, 0, Nat.zero_le _, rfl, rfl, rfl, HP0⟩
  case round =>
    clear HP0
    obtain ⟨k, A, ac, C, cc, hk, rfl, rfl, rfl, HS⟩ := hrel
    by_cases hlt : k < 16
    · have HE := Lib.hid (Edge_any n ((k + 1 : Nat) : Int) m wr)
      have ha1 := all_one n m k
      have hc1 := ch_one n m k
      cases he : edgeI n ((k + 1 : Nat) : Int) m with
      | false =>
        rw [he] at HE ha1 hc1
        rw [Bool.false_and] at hc1
        simp only [Bool.false_eq_true, if_false, List.append_nil] at ha1 hc1
        have HS2 : Hid (Pst w0.heap.size w0 wr A ac C cc (allK n m (k + 1)) (chK n m (k + 1))) := Lib.hid (by rw [ha1, hc1]; exact HS.out)
        have HL : Hid ((allK n m (k + 1)).length = (allK n m k).length ∧ (chK n m (k + 1)).length = (chK n m k).length) := Lib.hid ⟨by rw [ha1], by rw [hc1]⟩
        obtain ⟨na, hna⟩ : ∃ q, (allK n m k).length = q := ⟨_, rfl⟩
        obtain ⟨nc, hnc⟩ : ∃ q, (chK n m k).length = q := ⟨_, rfl⟩
        rw [hna, hnc] at HL ⊢
        have hk1 : ((k + 1 : Nat) : Int) = (k : Int) + 1 := by omega
        rw [hk1] at HE ⊢
        clear ha1 hc1 he hna hnc HS hk1
        go_wp2_with fail
        refine HE.out.mono ?_
        rintro e w1 ⟨rfl, rfl⟩
        go_wp2_with fail
        go_roundw
        case rel => exact ⟨k + 1, A, ac, C, cc, by omega, by rw [HL.out.2], by rw [HL.out.1], by go_num, HS2⟩
        case measure => simp [intOf]; omega
      | true =>
        rw [he] at HE ha1 hc1
        rw [if_pos rfl] at ha1
        rw [Bool.true_and] at hc1
        obtain ⟨A2, ac2, w2, hrun, hs2⟩ := HS.out.up (k + 1) (by have := all_len n m k; omega)
        rw [← ha1] at hs2
        have hla : (allK n m (k + 1)).length = (allK n m k).length + 1 := by rw [ha1, List.length_append]; rfl
        by_cases hnk : n < ((k + 1 : Nat) : Int)
        · rw [decide_eq_true hnk, if_pos rfl] at hc1
          obtain ⟨C2, cc2, w3, hrun3, hs3⟩ := hs2.flip.up (k + 1) (by have := ch_len n m k; omega)
          rw [← hc1] at hs3
          have hlc : (chK n m (k + 1)).length = (chK n m k).length + 1 := by rw [hc1, List.length_append]; rfl
          have HS3 := Lib.hid hs3.flip
          obtain ⟨na, hna⟩ : ∃ q, (allK n m k).length = q := ⟨_, rfl⟩
          obtain ⟨nc, hnc⟩ : ∃ q, (chK n m k).length = q := ⟨_, rfl⟩
          rw [hna] at hla hrun
          rw [hnc] at hlc hrun3
          rw [hna, hnc]
          have HL := Lib.hid (And.intro hla hlc)
          have hk1 : ((k + 1 : Nat) : Int) = (k : Int) + 1 := by omega
          rw [hk1] at HE hrun hrun3 hnk ⊢
          have HRUN := Lib.hid hrun
          have HRUN3 := Lib.hid hrun3
          have e1 : decide ((k : Int) + 1 > n) = true := decide_eq_true hnk
          clear ha1 hc1 he hna hnc HS hk1 hrun hrun3 hs2 hs3 hla hlc hnk
          go_wp2_with fail
          refine HE.out.mono ?_
          rintro e w1 ⟨rfl, rfl⟩
          go_wp2_with (at_builtin
                       first
                       | refine Lib.wpList_append_run _ rfl (.tmp 21) (.tmp 23) 23 23 rfl (.slice A na ac) (.slice (some ⟨w1.heap.size, 0, none⟩) 1 1) rfl rfl _ _ HRUN.out ?_
                       | refine Lib.wpList_append_run _ rfl (.tmp 28) (.tmp 30) 23 23 rfl (.slice C nc cc) (.slice (some ⟨w2.heap.size, 0, none⟩) 1 1) rfl rfl _ _ HRUN3.out ?_)
          go_roundw
          case rel => exact ⟨k + 1, A2, ac2, C2, cc2, by omega, by rw [HL.out.2], by rw [HL.out.1], by go_num, HS3⟩
          case measure => simp [intOf]; omega
        · rw [decide_eq_false hnk, if_neg Bool.false_ne_true, List.append_nil] at hc1
          have hlc : (chK n m (k + 1)).length = (chK n m k).length := by rw [hc1]
          rw [← hc1] at hs2
          rw [hlc.symm] at *
          have HS3 := Lib.hid hs2
          obtain ⟨na, hna⟩ : ∃ q, (allK n m k).length = q := ⟨_, rfl⟩
          rw [hna] at hla hrun
          rw [hna]
          have HL := Lib.hid hla
          obtain ⟨nc, hnc⟩ : ∃ q, (chK n m (k + 1)).length = q := ⟨_, rfl⟩
          have HNC := Lib.hid hnc
          rw [hnc]
          have hk1 : ((k + 1 : Nat) : Int) = (k : Int) + 1 := by omega
          rw [hk1] at HE hrun hnk ⊢
          have HRUN := Lib.hid hrun
          have e1 : decide ((k : Int) + 1 > n) = false := decide_eq_false hnk
          clear ha1 hc1 he hna hnc HS hk1 hrun hs2 hla hlc hnk
          go_wp2_with fail
          refine HE.out.mono ?_
          rintro e w1 ⟨rfl, rfl⟩
          go_wp2_with (at_builtin
                       refine Lib.wpList_append_run _ rfl (.tmp 21) (.tmp 23) 23 23 rfl (.slice A na ac) (.slice (some ⟨w1.heap.size, 0, none⟩) 1 1) rfl rfl _ _ HRUN.out ?_)
          go_roundw
          case rel => exact ⟨k + 1, A2, ac2, C, cc, by omega, by rw [HNC.out], by rw [HL.out], by go_num, HS3⟩
          case measure => simp [intOf]; omega
    · obtain rfl : k = 16 := by omega
      clear hlt hk
      have hAN := all_eq n m
      have hCN := ch_eq n m
      have hl16 := all_len n m 16
      have hc16 := ch_len n m 16
      rw [hAN] at HS hl16 ⊢
      rw [hCN] at HS hc16 ⊢
      obtain ⟨AL, hAL⟩ : ∃ q, nearI n m = q := ⟨_, rfl⟩
      obtain ⟨CL, hCL⟩ : ∃ q, childI n m = q := ⟨_, rfl⟩
      have HNE : Hid (∀ wq, Calls Try.prog 13 #[.int .i64 n, .int .i64 m] wq fun e w' => ∃ v, e = .returned v ∧ NR wq.heap.size w' v AL ∧ Below wq.heap.size wq w') := Lib.hid fun wq => by rw [← hAL]; exact Neighbours_any n m wq
      have HCH : Hid (∀ wq, Calls Try.prog 12 #[.int .i64 n, .int .i64 m] wq fun e w' => ∃ v, e = .returned v ∧ NR wq.heap.size w' v CL ∧ Below wq.heap.size wq w') := Lib.hid fun wq => by rw [← hCL]; exact Children_any n m wq
      rw [hAL] at HS hl16 ⊢
      rw [hCL] at HS hc16 ⊢
      have HLA := Lib.hid hl16
      have HLC := Lib.hid hc16
      obtain ⟨na, hna⟩ : ∃ q, AL.length = q := ⟨_, rfl⟩
      obtain ⟨nc, hnc⟩ : ∃ q, CL.length = q := ⟨_, rfl⟩
      have HNA := Lib.hid hna
      have HNC := Lib.hid hnc
      rw [hna, hnc]
      clear hAN hCN hl16 hc16 hAL hCL hna hnc
      by_cases hn1 : 0 < n
      · have hq : wrap64 (n.tdiv 2) = par := by
          rw [← HPAR.out, parI, if_neg (by omega), Int.tdiv_eq_ediv_of_nonneg (by omega), IntWalk.wrap64_in _ ⟨by omega, by have := HN.out; omega⟩]
        have HD0 : Hid (dep = 0 + Nat.log2 n.toNat) := Lib.hid (by rw [← HDEP.out, depI, if_neg (by omega), Nat.zero_add])
        have hd64 : dep ≤ 64 := by
          have := (Nat.log2_lt (n := n.toNat) (k := 64) (by omega)).2 (by have := HN.out; omega)
          have := HD0.out
          omega
        have e1 : decide (n > 0) = true := decide_eq_true hn1
        go_wp2_with fail
        go_loopw [9, 10] (fun d p wq => ∃ (k : Nat) (q : Int), d = .int .i64 (k : Int) ∧ p = .int .i64 q ∧ Hid (dep = k + Nat.log2 q.toNat) ∧ Hid (1 ≤ q ∧ q ≤ 9223372036854775807) ∧ wr = wq) (fun d _ _ => dep - (intOf d).toNat)
        case atStart => exact ⟨0, n, rfl, rfl, HD0, Lib.hid ⟨by omega, HN.out⟩, rfl⟩
        case round =>
          clear HD0
          obtain ⟨k, q, rfl, rfl, HD, HQ, rfl⟩ := hrel
          by_cases hq1 : 1 < q
          · have hr : wrap64 (q.tdiv 2) = q / 2 := by
              rw [Int.tdiv_eq_ediv_of_nonneg (by omega), IntWalk.wrap64_in _ ⟨by omega, by have := HQ.out; omega⟩]
            have hlg : dep = k + 1 + Nat.log2 (q / 2).toNat := by
              have h3 : (q / 2).toNat = q.toNat / 2 := by omega
              have := HD.out
              rw [Nat.log2_def, if_pos (by omega)] at this
              rw [h3]
              omega
            have hkd : k < dep := by omega
            have HQ2 : Hid (1 ≤ q / 2 ∧ q / 2 ≤ 9223372036854775807) := Lib.hid (by have := HQ.out; omega)
            obtain ⟨r, hrr⟩ : ∃ r, q / 2 = r := ⟨_, rfl⟩
            rw [hrr] at hr hlg HQ2
            have HLG := Lib.hid hlg
            have e2 : decide (q > 1) = true := decide_eq_true hq1
            clear hrr hlg HD HQ hq1
            go_wp2_with fail
            go_roundw
            case rel => exact ⟨k + 1, r, by go_num, by rw [hr], HLG, HQ2, trivial⟩
            case measure => simp [intOf]; omega
          · have HE : Hid (k = dep) := Lib.hid (by
              have := HD.out
              obtain rfl : q = 1 := by have := HQ.out; omega
              rw [show Nat.log2 (Int.toNat 1) = 0 by decide] at this
              omega)
            have e2 : decide (q > 1) = false := decide_eq_false hq1
            obtain rfl : k = dep := HE.out
            clear hq1
            go_wp2_with fail
            refine (HPA.out wr).mono ?_
            rintro e w1 ⟨rfl, rfl⟩
            go_wp2_with fail
            refine (HDE.out w1).mono ?_
            rintro e w2 ⟨rfl, rfl⟩
            go_wp2_with fail
            refine (HCH.out w2).mono ?_
            rintro e w3 ⟨v, rfl, hrow, hb3⟩
            obtain ⟨A3, c3, rfl, hir3, _, _⟩ := hrow.islice
            have HSa := Lib.hid (Same_any A3 C (CL.map fun n : Nat => (n : Int)) (CL.map fun n : Nat => (n : Int)) c3 cc w3 hir3 ((OwnG.irow HS.out.rd).2.later hb3) (by rw [List.length_map]; have := HLC.out; omega))
            rw [decide_eq_true rfl, List.length_map, HNC.out] at HSa
            have HS3 := Lib.hid (HS.out.go hb3)
            rw [HNC.out]
            clear hrow hb3 hir3 HS
            go_wp2_with fail
            refine HSa.out.mono ?_
            rintro e w4 ⟨rfl, hb4⟩
            have HS4 := Lib.hid (HS3.out.go hb4)
            clear hb4 HSa HS3
            go_wp2_with fail
            refine (HNE.out w4).mono ?_
            rintro e w5 ⟨v, rfl, hrow, hb5⟩
            obtain ⟨A5, c5, rfl, hir5, _, _⟩ := hrow.islice
            have HSb := Lib.hid (Same_any A5 A (AL.map fun n : Nat => (n : Int)) (AL.map fun n : Nat => (n : Int)) c5 ac w5 hir5 ((OwnG.irow HS4.out.ru).2.later hb5) (by rw [List.length_map]; have := HLA.out; omega))
            rw [decide_eq_true rfl, List.length_map, HNA.out] at HSb
            have HS5 := Lib.hid (HS4.out.go hb5)
            rw [HNA.out]
            clear hrow hb5 hir5 HS4
            go_wp2_with fail
            refine HSb.out.mono ?_
            rintro e w6 ⟨rfl, hb6⟩
            have HS6 := Lib.hid (HS5.out.go hb6)
            have HF := Lib.hid (Far_any m w6)
            obtain ⟨fr, hfr⟩ : ∃ q, farI m = q := ⟨_, rfl⟩
            have HFR : Hid (∀ wq, Calls Try.prog 15 #[.int .i64 m] wq fun e w' => e = .returned (.int .i64 (fr : Int)) ∧ Below wq.heap.size wq w') := Lib.hid fun wq => by rw [← hfr, ← farR_eq]; exact RFar_any m wq
            rw [hfr] at HF
            clear hb6 HSb HS5 hfr
            go_wp2_with fail
            refine HF.out.mono ?_
            rintro e w7 ⟨rfl, hb7⟩
            have HS7 := Lib.hid (HS6.out.go hb7)
            clear hb7 HS6 HF
            go_wp2_with fail
            refine (HFR.out w7).mono ?_
            rintro e w8 ⟨rfl, hb8⟩
            have HS8 := Lib.hid (HS7.out.go hb8)
            clear hb8 HS7 HFR
            go_wp2_with fail
            go_returns
            exact ⟨rfl, HB0.out.trans (HS8.out.bel.mono HB0.out.size)⟩
      · obtain rfl : par = 0 := by rw [← HPAR.out, parI, if_pos (by omega)]
        obtain rfl : dep = 0 := by rw [← HDEP.out, depI, if_pos (by omega)]
        have e1 : decide (n > 0) = false := decide_eq_false hn1
        clear hn1
        go_wp2_with fail
        refine (HPA.out wr).mono ?_
        rintro e w1 ⟨rfl, rfl⟩
        go_wp2_with fail
        refine (HDE.out w1).mono ?_
        rintro e w2 ⟨rfl, rfl⟩
        go_wp2_with fail
        refine (HCH.out w2).mono ?_
        rintro e w3 ⟨v, rfl, hrow, hb3⟩
        obtain ⟨A3, c3, rfl, hir3, _, _⟩ := hrow.islice
        have HSa := Lib.hid (Same_any A3 C (CL.map fun n : Nat => (n : Int)) (CL.map fun n : Nat => (n : Int)) c3 cc w3 hir3 ((OwnG.irow HS.out.rd).2.later hb3) (by rw [List.length_map]; have := HLC.out; omega))
        rw [decide_eq_true rfl, List.length_map, HNC.out] at HSa
        have HS3 := Lib.hid (HS.out.go hb3)
        rw [HNC.out]
        clear hrow hb3 hir3 HS
        go_wp2_with fail
        refine HSa.out.mono ?_
        rintro e w4 ⟨rfl, hb4⟩
        have HS4 := Lib.hid (HS3.out.go hb4)
        clear hb4 HSa HS3
        go_wp2_with fail
        refine (HNE.out w4).mono ?_
        rintro e w5 ⟨v, rfl, hrow, hb5⟩
        obtain ⟨A5, c5, rfl, hir5, _, _⟩ := hrow.islice
        have HSb := Lib.hid (Same_any A5 A (AL.map fun n : Nat => (n : Int)) (AL.map fun n : Nat => (n : Int)) c5 ac w5 hir5 ((OwnG.irow HS4.out.ru).2.later hb5) (by rw [List.length_map]; have := HLA.out; omega))
        rw [decide_eq_true rfl, List.length_map, HNA.out] at HSb
        have HS5 := Lib.hid (HS4.out.go hb5)
        rw [HNA.out]
        clear hrow hb5 hir5 HS4
        go_wp2_with fail
        refine HSb.out.mono ?_
        rintro e w6 ⟨rfl, hb6⟩
        have HS6 := Lib.hid (HS5.out.go hb6)
        have HF := Lib.hid (Far_any m w6)
        obtain ⟨fr, hfr⟩ : ∃ q, farI m = q := ⟨_, rfl⟩
        have HFR : Hid (∀ wq, Calls Try.prog 15 #[.int .i64 m] wq fun e w' => e = .returned (.int .i64 (fr : Int)) ∧ Below wq.heap.size wq w') := Lib.hid fun wq => by rw [← hfr, ← farR_eq]; exact RFar_any m wq
        rw [hfr] at HF
        clear hb6 HSb HS5 hfr
        go_wp2_with fail
        refine HF.out.mono ?_
        rintro e w7 ⟨rfl, hb7⟩
        have HS7 := Lib.hid (HS6.out.go hb7)
        clear hb7 HS6 HF
        go_wp2_with fail
        refine (HFR.out w7).mono ?_
        rintro e w8 ⟨rfl, hb8⟩
        have HS8 := Lib.hid (HS7.out.go hb8)
        clear hb8 HS7 HFR
        go_wp2_with fail
        go_returns
        exact ⟨rfl, HB0.out.trans (HS8.out.bel.mono HB0.out.size)⟩
theorem opened {H : Type} {enc : TypeId × Value → H} {W : World} {base : Nat} {gs : List (DataW H)} (v0 : Value) (d0 : DataW H) (p0 : List MemPlace) (v1 : Value) (d1 : DataW H) (p1 : List MemPlace)
    (o0 : Value.okWide Try.prog W .any base 3 v0) (t0 : DataW.Trod enc Try.prog W 0 (fun _ => true) true 3 v0 d0 p0)
    (o1 : Value.okWide Try.prog W .any base 3 v1) (_t1 : DataW.Trod enc Try.prog W 0 (fun _ => true) true 3 v1 d1 p1)
    (_hsz : (DataW.weightsEach Try.prog ([3, 3] ++ []) ([d0, d1] ++ gs)).all (· ≤ reachBytes) = true) :
    Calls Try.prog 3 #[v0, v1] W fun e W' => e = .returned (.bool true) ∧ Below W.heap.size W W' := by
  obtain ⟨x, rfl, _, hx1⟩ := arg_int o0 t0
  obtain ⟨y, rfl⟩ := okWide_int Try.underlying3 o1
  exact walk x y hx1 W

theorem contract (H : Type) (enc : TypeId × Value → H) (W : World) (base : Nat) (args : Array Value) (ds gs : List (DataW H)) (before : List MemPlace)
    (hval : ∀ (j : Nat) t v, Try.f3.params[j]? = some t → args[j]? = some v → Value.okWide Try.prog W .any base t v)
    (hW : DataW.Whole enc Try.prog Try.f3.params.toList Rows.spanTreesSpec.vars false W args.toList ds gs before)
    (hsz : (DataW.weightsEach Try.prog (Try.f3.params.toList ++ []) (ds ++ gs)).all (· ≤ reachBytes) = true) :
    Calls Try.prog 3 args W fun e W' => ∃ v, e = .returned v ∧ Rows.spanTreesSpec.post enc Try.prog Try.f3 false true false false W args v W' := by
  have hW0 := hW
  obtain ⟨p, q, hA0, hV, rfl, _, _⟩ := hW
  have hA : DataW.TrodAll enc Try.prog W 0 (fun _ => true) true Try.f3.params.toList args.toList ds p := hA0
  rw [Try.params3] at hA hval hsz
  obtain ⟨v0, vs0, d0, ds0, p0, q0, hargs, rfl, rfl, h0, r0⟩ := trodAll_cons hA
  obtain ⟨v1, vs1, d1, ds1, p1, q1, rfl, rfl, rfl, h1, r1⟩ := trodAll_cons r0
  obtain ⟨rfl, rfl, rfl⟩ := trodAll_nil r1
  obtain rfl : args = #[v0, v1] := by cases args; simp_all
  refine (opened v0 d0 p0 v1 d1 p1 (hval 0 3 v0 rfl rfl) h0 (hval 1 3 v1 rfl rfl) h1 hsz).mono fun e W' ⟨he, hb⟩ => ⟨_, he, ?_⟩
  exact Base.law_post (tb := 4) Base.laidOut (by kernel_rfl) rfl Try.underlying4 rfl (fun l hl => by
    rw [Try.params3] at hl
    match l, hl with
    | [_, _], _ => rfl) (by rw [Try.params3]; rfl) hW0 hb

theorem laid_met (os : Os) : laidMet Try.prog Rows.spanTreesRow.laid ((Base.plainWorld os).forCall (fun _ _ => 0) ⟨#[], #[.int .i64 0, .int .i64 0], []⟩).memory := laidMet_nil _ _
theorem reads (os : Os) {H : Type} (enc : TypeId × Value → H) : ∃ places, DataW.whole enc Try.prog ((Base.plainWorld os).forCall (fun _ _ => 0) ⟨#[], #[.int .i64 0, .int .i64 0], []⟩).memory Try.f3.params.toList Rows.spanTreesSpec.vars false (#[.int .i64 0, .int .i64 0] : Array Value).toList 8 = some ([.lit (.int .i64 0), .lit (.int .i64 0)], [], places) :=
  ⟨[], by kernel_rfl⟩

set_option maxRecDepth 100000 in
theorem lifted (os : Os) (started : os.Started) (H : Type) (enc : TypeId × Value → H) (F : Stop.Interp) :
    ReturnsInHanded {} Try.checked os 3 .any ((OpenSpec.ofChange Rows.spanTreesSpec).preRow enc Try.prog Try.f3 Rows.spanTreesRow.domain false Rows.spanTreesRow.laid) (((OpenSpec.ofChange Rows.spanTreesSpec).at F).post enc Try.prog Try.f3 false true false false) := by
  obtain ⟨places, hx⟩ := reads os enc
  refine returnsInHanded_of_row (C := Try.checked) (s := OpenSpec.ofChange Rows.spanTreesSpec) Base.own started (by kernel_rfl) Try.func3
    (witness_row_at (enc := enc) (C := Try.checked) false (Base.plainWorld os) #[.int .i64 0, .int .i64 0] rfl (by kernel_rfl) (by kernel_rfl) (by kernel_rfl)
      (OpenSpec.preRow_of_cond 8 hx (by kernel_rfl) (fun k hk => by cases hk) (by kernel_rfl) (laid_met os))) ?_
  intro W base args ds gs before hval hW _ _ hsz _ _ _
  exact contract H enc W base args ds gs before hval hW hsz

theorem said : Rows.SpanTreesSaid :=
  OpenClaim.holds_of_cond 3 Try.f3 rfl rfl rfl rfl rfl rfl rfl ⟨rfl, rfl, rfl, rfl, rfl⟩ rfl rfl rfl rfl rfl (by kernel_rfl) Try.func3 (by kernel_rfl)
    (of_decide_eq_true (by kernel_rfl)) (by unfold Func.isWrapper; rw [if_neg (of_decide_eq_false (by kernel_rfl))]; exact ⟨rfl, rfl⟩)
    (fun os started H enc _ F => by rw [OpenClaim.pre_eq_preRow]; exact lifted os started H enc F)
#print axioms said
end Go.Proofs.Ytbchgnlfkcgklaa.SpanTrees
