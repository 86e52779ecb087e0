/-
  Layer 15, the document's Path and Far. Conditions: none.
-/
import Derived.Test.YteieehlllfnmcaaSpn6
import Derived.Test.YteieehlllfnmcaaSpn4
import Derived.BigQuiet
import Derived.Deep.QuietTactic
namespace Go.Proofs.Yteieehlllfnmcaa.Spn
set_option maxRecDepth 100000
open Go.RowKit Go.Deep Go.Proofs.Yteieehlllfnmcaa.Mem

theorem stepsL_len (t m : Nat) : (stepsL t m).length = 17 := by unfold stepsL; simp
theorem stepsL_in {t m x : Nat} (h1 : 1 ≤ x) (h2 : x ≤ m) (h3 : m ≤ 16) (h : x < (stepsL t m).length) : (stepsL t m)[x] = (dst x t : Int) := by
  have := stepsL_at (t := t) (m := m) (x := x) (by omega)
  rw [if_pos ⟨h1, h2⟩, List.getElem?_eq_getElem h] at this
  exact Option.some.inj this
theorem stepsI_len (t m : Int) : (stepsI t m).length = 17 := by unfold stepsI; split <;> simp [stepsL_len]
theorem pathL_head {f t : Nat} (h1 : 1 ≤ f) (h2 : f ≤ 16) (h3 : 1 ≤ t) (h4 : t ≤ 16) : f :: (pathL f t).tail = pathL f t := by
  by_cases e : f = t
  · subst e
    unfold pathL
    rw [goP_eq]
    rfl
  · rw [((AB.of h1 h2 h3 h4).next e).1]
    rfl
theorem pathL_self (t : Nat) : pathL t t = [t] := by unfold pathL; rw [goP_eq]; rfl
set_option maxHeartbeats 4000000 in
theorem RPath_any (f t m : Int) (w : World) : Calls Try.prog 22 #[.int .i64 f, .int .i64 t, .int .i64 m] w fun e w' => ∃ v, e = .returned v ∧ NR w.heap.size w' v (pathI f t m) ∧ Below w.heap.size w w' := by
  have HS := Lib.hid (Steps_any t m w)
  obtain ⟨L, hL⟩ : ∃ L, pathI f t m = L := ⟨_, rfl⟩
  rw [hL]
  have HL := Lib.hid hL
  clear hL
  by_cases hbad : f < 1 ∨ m < f ∨ 16 < m
  · obtain rfl : [] = L := by rw [← HL.out]; unfold pathI; rw [if_neg (by unfold hasB; simp; omega)]
    by_cases h1 : f < 1
    · clear hbad
      go_enter Try.func22, Try.ntmps22
      go_wp2_with fail
      refine HS.out.mono ?_
      rintro e w1 ⟨v, rfl, _, hb1⟩
      have HB1 := Lib.hid hb1
      clear hb1
      go_wp2_with fail
      go_returns
      exact ⟨_, rfl, OwnG.nil _ _ _ _ _, HB1.out⟩
    by_cases h2 : m < f
    · clear hbad
      go_enter Try.func22, Try.ntmps22
      go_wp2_with fail
      refine HS.out.mono ?_
      rintro e w1 ⟨v, rfl, _, hb1⟩
      have HB1 := Lib.hid hb1
      clear hb1
      go_wp2_with fail
      go_returns
      exact ⟨_, rfl, OwnG.nil _ _ _ _ _, HB1.out⟩
    have h3 : 16 < m := by omega
    clear hbad
    go_enter Try.func22, Try.ntmps22
    go_wp2_with fail
    refine HS.out.mono ?_
    rintro e w1 ⟨v, rfl, _, hb1⟩
    have HB1 := Lib.hid hb1
    clear hb1
    go_wp2_with fail
    go_returns
    exact ⟨_, rfl, OwnG.nil _ _ _ _ _, HB1.out⟩
  · obtain ⟨f, rfl⟩ : ∃ q : Nat, f = (q : Int) := ⟨f.toNat, by omega⟩
    obtain ⟨m, rfl⟩ : ∃ q : Nat, m = (q : Int) := ⟨m.toNat, by omega⟩
    have h1 : 1 ≤ f := by omega
    have h2 : f ≤ m := by omega
    have h3 : m ≤ 16 := by omega
    have z1 : ¬ (f : Int) < 1 := by omega
    have z2 : ¬ (m : Int) < (f : Int) := by omega
    have z3 : ¬ 16 < (m : Int) := by omega
    clear hbad
    by_cases ht : hasB t m = true
    · have HLL : Hid (pathL f t.toNat = L) := Lib.hid (by
        rw [← HL.out]
        unfold pathI
        rw [ht, if_pos (by unfold hasB; simp; omega), Int.toNat_natCast])
      have HSS : Hid (stepsI t m = stepsL t.toNat m) := Lib.hid (by unfold stepsI; rw [if_pos ht, Int.toNat_natCast])
      obtain ⟨t, m2, rfl, hmm, t1, t2, _⟩ := has_nat ht
      obtain rfl : m = m2 := by omega
      rw [HSS.out, Int.toNat_natCast] at HS
      rw [Int.toNat_natCast] at HLL
      have HT := Lib.hid (And.intro h3 (And.intro t1 t2))
      clear ht HSS HL hmm
      go_enter Try.func22, Try.ntmps22
      go_wp2_with fail
      refine HS.out.mono ?_
      rintro e w1 ⟨v, rfl, hrow, hb1⟩
      obtain ⟨D, dc, rfl, hir, _, _⟩ := hrow.islice
      rw [stepsL_len]
      simp only [List.map_id'] at hir
      have HIR : Hid (∀ wq, Below w1.heap.size w1 wq → ∀ x, 1 ≤ x → x ≤ m → ∃ g off, D = some ⟨g, off, none⟩ ∧ wq.cell? ⟨g, off + x, none⟩ = some (.int .i64 (dst x t : Int))) := Lib.hid fun wq hq x e1 e2 => by
        obtain ⟨g, off, e3, hc⟩ := hir.later hq x (by rw [stepsL_len]; omega)
        rw [stepsL_in e1 e2 h3] at hc
        exact ⟨g, off, e3, hc⟩
      obtain ⟨g, off, rfl, cf⟩ := HIR.out w1 (Below.refl _ _) f h1 h2
      have HB1 := Lib.hid hb1
      have hbs := hb1.size
      obtain ⟨w2, hw2⟩ : ∃ W, W = w1.alloc (.cells #[.int .i64 (f : Int)] 3) := ⟨_, rfl⟩
      have hb2 : Below w1.heap.size w1 w2 := by rw [hw2]; exact below_alloc _ _
      have hr2 : NR w1.heap.size w2 (.slice (some ⟨w1.heap.size, 0, none⟩) 1 1) [f] := by
        rw [hw2]
        exact ⟨rfl, Or.inr ⟨_, 1, _, rfl, Nat.le_refl _, heap_alloc_new _ _, Nat.le_refl _, by unfold maxLen; omega, rfl, rfl⟩⟩
      have HB2 := Lib.hid hb2
      have HR2 := Lib.hid hr2
      have d1 : decide ((f : Int) < 1) = false := decide_eq_false (by omega)
      have d2 : decide (m < f) = false := decide_eq_false (by omega)
      have d3 : decide ((m : Int) > 16) = false := decide_eq_false (by omega)
      have d4 : decide ((dst f t : Int) < 0) = false := decide_eq_false (by omega)
      obtain ⟨df, hdf⟩ : ∃ d, dst f t = d := ⟨_, rfl⟩
      have HDF := Lib.hid hdf
      rw [hdf] at cf d4
      clear hb1 hb2 hr2 hrow hir HS hbs z1 z2 z3 hdf
      go_upto_region 5 with (fail)
      rw [← hw2]
      clear hw2 cf
      have HM0 : Hid ([f] ++ (pathL f t).tail = L) := Lib.hid (by rw [← HLL.out]; exact pathL_head h1 (by omega) HT.out.2.1 (by have := HT.out; omega))
      have hd40 : 1 + dst f t ≤ 40 := by clear d1 d2 d3 d4; have := (AB.of h1 (show f ≤ 16 by omega) HT.out.2.1 (show t ≤ 16 by omega)).few; omega
      go_wp2_with fail
      go_loopw [8, 9] (fun o a wr => ∃ (x : Nat) (l : List Nat) (A : Option Addr) (c : Nat), o = .slice A l.length c ∧ a = .int .i64 (x : Int) ∧ 1 ≤ x ∧ x ≤ m ∧ l.length + dst x t ≤ 40 ∧ Hid (l ++ (pathL x t).tail = L) ∧ Hid (NR w1.heap.size wr (.slice A l.length c) l) ∧ Hid (Below w1.heap.size w1 wr)) (fun _ a _ => dst (intOf a).toNat t)
      case atStart => exact ⟨f, [f], _, 1, rfl, rfl, h1, h2, hd40, HM0, HR2, HB2⟩
      case round =>
        clear HM0 HR2 HB2 hd40
        obtain ⟨x, l, A, c, rfl, rfl, hx1, hx2, hl40, HL, HR, HB⟩ := hrel
        by_cases hxt : x = t
        · subst hxt
          have HE : Hid (l = L) := Lib.hid (by rw [← HL.out, pathL_self]; simp)
          obtain ⟨n, hn⟩ : ∃ n, l.length = n := ⟨_, rfl⟩
          rw [hn] at HR ⊢
          clear hn hl40
          go_wp2_with fail
          go_returns
          exact ⟨_, rfl, by rw [← HE.out]; exact HR.out.up HB1.out.size, HB1.out.trans (HB.out.mono HB1.out.size)⟩
        · have hAB := AB.of hx1 (show x ≤ 16 by omega) HT.out.2.1 (show t ≤ 16 by omega)
          obtain ⟨q1, q2, q3, q4, q5⟩ := hAB.next hxt
          obtain ⟨y, hy⟩ : ∃ y, nxt x t = y := ⟨_, rfl⟩
          rw [hy] at q1 q2 q3 q4 q5
          have hy2 : y ≤ m := by omega
          obtain ⟨n, hn⟩ : ∃ n, l.length = n := ⟨_, rfl⟩
          have hn40 : n ≤ 40 := by omega
          rw [hn] at HR hl40 ⊢
          have HN := Lib.hid hn
          have HY := Lib.hid hy
          have HQ1 := Lib.hid q1
          have HQ2 := Lib.hid q2
          have HQ3 := Lib.hid q3
          have HNO : Hid (∀ k, 1 ≤ k → k ≤ m → k ≠ y → edgeB x k = true → dst k t + 1 ≠ dst x t) := Lib.hid fun k e1 e2 e3 e4 e5 => by
            have := (abc_le hx1 (show x ≤ 16 by omega) e1 (show k ≤ 16 by omega) HT.out.2.1 (show t ≤ 16 by omega) e4).2 e5
            omega
          have hxt2 : ((x : Int) == (t : Int)) = false := by simp; omega
          obtain ⟨gx, ox, egx, cx⟩ := HIR.out wr HB.out x hx1 hx2
          simp only [Option.some.injEq, Addr.mk.injEq] at egx
          obtain ⟨rfl, rfl, _⟩ := egx
          obtain ⟨dx, hdx⟩ : ∃ d, dst x t = d := ⟨_, rfl⟩
          rw [hdx] at cx hl40 HQ3 HNO
          have HDX := Lib.hid hdx
          have hdx40 : dx ≤ 40 := by omega
          clear hAB q1 q2 q3 hn hy hxt hdx
          obtain ⟨wo, hwo⟩ : ∃ W, W = wr := ⟨_, rfl⟩
          subst hwo
          go_wp2_with fail
          go_loopw [9, 10] (fun a i wq => ∃ (k : Nat), 1 ≤ k ∧ k ≤ y ∧ a = .int .i64 (x : Int) ∧ i = .int .i64 (k : Int) ∧ Hid (Below wo.heap.size wo wq)) (fun _ i _ => m + 1 - (intOf i).toNat)
          case atStart => exact ⟨1, Nat.le_refl _, q4, rfl, rfl, Lib.hid (Below.refl _ _)⟩
          case round =>
            obtain ⟨k, hk1, hk2, rfl, rfl, HBQ⟩ := hrel
            have hkm : k ≤ m := by omega
            obtain ⟨gk, ok, egk, ck⟩ := HIR.out wr (HB.out.trans (HBQ.out.mono HB.out.size)) k hk1 hkm
            simp only [Option.some.injEq, Addr.mk.injEq] at egk
            obtain ⟨rfl, rfl, _⟩ := egk
            have cx2 : wr.cell? ⟨g, off + x, none⟩ = some (.int .i64 (dx : Int)) := (HBQ.out.cell (block_of_cell cx)).trans cx
            have hei : edgeI (x : Int) (k : Int) (m : Int) = edgeB x k := by
              unfold edgeI
              rw [decide_eq_true (by omega), Bool.true_and, Int.toNat_natCast, Int.toNat_natCast]
            have HE : Hid (∀ wz, Calls Try.prog 24 #[.int .i64 (x : Int), .int .i64 (k : Int), .int .i64 (m : Int)] wz fun e w' => e = .returned (.bool (edgeB x k)) ∧ w' = wz) := Lib.hid fun wz => by
              have := Edge_any (x : Int) (k : Int) (m : Int) wz
              rw [hei] at this
              exact this
            obtain ⟨dk, hdk⟩ : ∃ d, dst k t = d := ⟨_, rfl⟩
            rw [hdk] at ck
            have hdk16 : dk ≤ 16 := by have := (AB.of hk1 (show k ≤ 16 by omega) HT.out.2.1 (show t ≤ 16 by omega)).few; have := HT.out; omega
            by_cases hky : k = y
            · subst hky
              have he : edgeB x k = true := HQ2.out
              rw [he] at HE
              have hdd : dk + 1 = dx := by rw [← hdk]; exact HQ3.out
              have e1 : ((dk : Int) == (dx : Int) - 1) = true := by simp; omega
              clear he hdk hei
              go_upto_region 10 with (fail)
              go_quiet ((go_at_call 24; exact Calls.quiet_of_same (HE.out _)))
              obtain ⟨wn, hwn⟩ : ∃ W, W = wr.drewN nq := ⟨_, rfl⟩
              have hbn : Below wo.heap.size wo wn := by rw [hwn]; exact below_drewN HBQ.out _
              rw [← hwn]
              clear hwn
              obtain ⟨A2, n2, c2, w2, hrun, hrow, ho, hg⟩ := (HR.out.later hbn).iapp k (Nat.le_trans HB.out.size hbn.size) (by have := HN.out; omega)
              obtain rfl : n2 = n + 1 := by have := (OwnG.irow hrow).1; have := HN.out; simp at *; omega
              have HRUN := Lib.hid hrun
              have HRW := Lib.hid hrow
              have HB2 := Lib.hid ((HB.out.trans (hbn.mono HB.out.size)).trans (ho.below (Nat.le_trans HB.out.size hbn.size) fun i e => (HR.out.lt (by rw [own_blk]; exact e.symm)).1))
              have HLN : Hid ((l ++ [k]).length = n + 1) := Lib.hid (by rw [List.length_append, HN.out]; rfl)
              have HL2 : Hid ((l ++ [k]) ++ (pathL k t).tail = L) := Lib.hid (by
                rw [← HL.out, HQ1.out, List.append_assoc]
                congr 1
                exact pathL_head hk1 (by omega) HT.out.2.1 (by have := HT.out; omega))
              have HQ4 : Hid (dst k t = dk) := Lib.hid (by have := HQ3.out; omega)
              clear hrun hrow ho hg hbn HE
              go_wp2_with (at_builtin
                           refine Lib.wpList_append_run _ rfl (.tmp 60) (.tmp 62) 24 24 rfl (.slice A n c) (.slice (some ⟨wn.heap.size, 0, none⟩) 1 1) rfl rfl _ _ HRUN.out ?_)
              go_roundw
              case rel => exact ⟨k, l ++ [k], A2, c2, by rw [HLN.out], rfl, hk1, hkm, by rw [HLN.out, HQ4.out]; omega, HL2, by rw [HLN.out]; exact HRW, HB2⟩
              case measure => simp [intOf]; rw [HQ4.out, HDX.out]; have := HQ3.out; omega
            · have hky2 : k + 1 ≤ y := by omega
              cases he : edgeB x k with
              | false =>
                rw [he] at HE
                clear he hdk hei
                go_upto_region 10 with (fail)
                go_quiet ((go_at_call 24; exact Calls.quiet_of_same (HE.out _)))
                go_wp2_with fail
                go_roundw
                case rel => exact ⟨k + 1, by omega, by omega, rfl, by go_num, Lib.hid (below_drewN HBQ.out _)⟩
                case measure => simp [intOf]; omega
              | true =>
                rw [he] at HE
                have hne := HNO.out k hk1 hkm hky he
                rw [hdk] at hne
                have e1 : ((dk : Int) == (dx : Int) - 1) = false := by simp; omega
                clear he hdk hei hne
                go_upto_region 10 with (fail)
                go_quiet ((go_at_call 24; exact Calls.quiet_of_same (HE.out _)))
                go_wp2_with fail
                go_roundw
                case rel => exact ⟨k + 1, by omega, by omega, rfl, by go_num, Lib.hid (below_drewN HBQ.out _)⟩
                case measure => simp [intOf]; omega
    · have ht2 : hasB t m = false := by simpa using ht
      obtain rfl : [] = L := by rw [← HL.out]; unfold pathI; rw [ht2, Bool.and_false, if_neg Bool.false_ne_true]
      have hsi : stepsI t m = List.replicate 17 (-1) := by unfold stepsI; rw [if_neg ht]
      rw [hsi] at HS
      clear ht ht2 hsi HL
      go_enter Try.func22, Try.ntmps22
      go_wp2_with fail
      refine HS.out.mono ?_
      rintro e w1 ⟨v, rfl, hrow, hb1⟩
      obtain ⟨D, dc, rfl, hir, _, _⟩ := hrow.islice
      obtain ⟨g, off, rfl, cf⟩ := hir f (by simp; omega)
      rw [List.getElem_map, List.getElem_replicate] at cf
      rw [List.length_replicate]
      have HB1 := Lib.hid hb1
      clear hb1 hrow hir HS
      go_wp2_with fail
      go_returns
      exact ⟨_, rfl, OwnG.nil _ _ _ _ _, HB1.out⟩
def farR (m : Int) : Nat := if hasB m m then farD m.toNat else 0
theorem farR_eq (m : Int) : farR m = farI m := by
  unfold farR farI
  split
  · rename_i h
    obtain ⟨a, _, rfl, _, h1, _, h2⟩ := has_nat h
    rw [Int.toNat_natCast, far_eq h1 (by omega)]
  · rfl
/-- All steps to those up to a - 1, and to a from those up to b. -/
def farS (m a b : Nat) : List Nat := ((List.range' 1 (a - 1)).flatMap fun a => (List.range' 1 m).map fun b => dst b a) ++ (List.range' 1 b).map fun b => dst b a
theorem farS_next {m a : Nat} (h : 1 ≤ a) : farS m (a + 1) 0 = farS m a m := by
  unfold farS
  obtain ⟨a, rfl⟩ : ∃ q, a = q + 1 := ⟨a - 1, by omega⟩
  simp only [Nat.add_sub_cancel]
  rw [List.range'_concat, List.flatMap_append]
  simp [Nat.add_comm]
theorem farS_one (m a b : Nat) : farS m a (b + 1) = farS m a b ++ [dst (b + 1) a] := by
  unfold farS
  rw [List.range'_concat, List.map_append, ← List.append_assoc]
  simp [Nat.add_comm]
theorem farS_all (m : Nat) : mx (farS m (m + 1) 0) = farD m := by unfold farS farD; simp
end Go.Proofs.Yteieehlllfnmcaa.Spn
