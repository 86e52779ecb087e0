/-
  Layer 18, the document's table: At, One. Conditions: none.
-/
import Derived.Test.YtiobblmagjbhjaaLeaRef
import Derived.BigQuiet
namespace Go.Proofs.Ytiobblmagjbhjaa.Lea
set_option maxRecDepth 100000
open Go.RowKit Go.Deep Go.Proofs.Ytiobblmagjbhjaa.Mem

abbrev LrAt := LxAt 32 53
abbrev LrStep := LxStep 32 53
theorem el_rd : Elem 30 53 (.agg #[.int .i64 0, .int .i64 0, .int .i64 0, .int .i64 0, .int .i64 0]) 5 40 := ⟨Try.underlying30, by kernel_rfl, rfl, by decide, by decide⟩
section
variable {B rb ac : Nat} {w : World} {R : Rt} {A : Option Addr}
set_option maxHeartbeats 1000000 in
theorem RAt_any (h : LrAt B w rb R A ac) (c : Int) : Calls Try.prog 20 #[.pointer (some ⟨rb, 0, none⟩), .int .i64 c] w fun e w' => e = .returned (.int .i64 (atD c R.l 0)) ∧ w' = w := by
  obtain ⟨n, hn⟩ : ∃ n, R.l.length = n := ⟨_, rfl⟩
  have HN := Lib.hid hn
  have c1 := h.cel.cell (j := 1) rfl
  rw [hn] at c1
  have HR := Lib.hid h
  have hn2 : n ≤ 16 := by rw [← hn]; exact h.len
  obtain ⟨ans, hans⟩ : ∃ X, atD c R.l 0 = X := ⟨_, rfl⟩
  have HA := Lib.hid hans
  rw [hans]
  clear h hn hans
  go_enter Try.func20, Try.ntmps20
  go_wp2_with fail
  go_loopw [5] (fun i wr => ∃ (ii : Nat), ii ≤ n ∧ i = .int .i64 (ii : Int) ∧ Hid (∀ t ∈ R.l.take ii, t.cell ≠ c) ∧ wr = w) (fun i _ => n - (intOf i).toNat)
  case atStart => exact ⟨0, Nat.zero_le _, rfl, Lib.hid (fun t ht => by cases ht), rfl⟩
  case round =>
    obtain ⟨ii, hii, rfl, HF, rfl⟩ := hrel
    by_cases hin : ii < n
    · have hil : ii < R.l.length := by rw [HN.out]; exact hin
      obtain ⟨t, ht⟩ : ∃ t, R.l[ii] = t := ⟨_, rfl⟩
      obtain ⟨g, rfl, hrg, hzz⟩ := HR.out.at hil
      rw [ht] at hrg
      have x0 := hrg 0 _ rfl
      rw [Nat.add_zero] at x0
      have HV : Hid (t.cell = c → ans = (ii : Int)) := Lib.hid fun e => by
        rw [← HA.out, atD_drop c R.l ii HF.out (Nat.le_of_lt hil), List.drop_eq_getElem_cons hil, ht]
        show (if t.cell = c then (ii : Int) else _) = _
        rw [if_pos e]
      have HF2 : Hid (t.cell ≠ c → ∀ u ∈ R.l.take (ii + 1), u.cell ≠ c) := Lib.hid fun e u hu => by
        rw [List.take_succ_eq_append_getElem hil, List.mem_append] at hu
        rcases hu with hu | hu
        · exact HF.out u hu
        · rw [List.mem_singleton.1 hu, ht]
          exact e
      clear hrg ht hzz hil
      by_cases htc : t.cell = c
      · have e1 : (t.cell == c) = true := by simpa using htc
        have HV2 := Lib.hid (HV.out htc)
        clear htc
        go_wp2_with fail
        go_returns
        exact ⟨ret_int HV2.out.symm, rfl⟩
      · have e1 : (t.cell == c) = false := by simpa using htc
        have HF3 := Lib.hid (HF2.out htc)
        clear htc
        go_wp2_with fail
        go_roundw
        case rel => exact ⟨ii + 1, by omega, by go_num, HF3, by trivial⟩
        case measure => simp [intOf]; omega
    · obtain rfl : ii = n := by omega
      have HV : Hid (ans = -1) := Lib.hid (by rw [← HA.out, atD_drop c R.l ii HF.out (Nat.le_of_eq HN.out.symm), List.drop_of_length_le (Nat.le_of_eq HN.out)]; rfl)
      go_wp2_with fail
      go_returns
      exact ⟨ret_int HV.out.symm, rfl⟩
end
section
variable {B rb ac : Nat} {w : World} {T : List Sv} {A : Option Addr}
/-- The document's table of these slots. -/
def docR (T : List Sv) : Rt := ⟨(T.length : Int), docF 0 T⟩
set_option maxHeartbeats 2000000 in
theorem ROne_ask (h : LrAt B w rb (docR T) A ac) (who : Lt) (u c : Int) :
    Calls Try.prog 16 #[.pointer (some ⟨rb, 0, none⟩), .agg #[.int .i64 who.node, .int .i64 who.epoch, .int .i64 who.seq], .int .i64 u, .int .i64 c, .bool false] w fun e w' => e = .returned (.int .i64 (oneE T who c)) ∧ Below w.heap.size w w' := by
  obtain ⟨wa, hwa⟩ : ∃ W, W = w.alloc (.cells #[.int .i64 who.node, .int .i64 who.epoch, .int .i64 who.seq] 34) := ⟨_, rfl⟩
  have hba : Below w.heap.size w wa := by rw [hwa]; exact below_alloc _ _
  have hca : Cells wa w.heap.size 34 (lt3 who) := by rw [hwa]; exact cells_new _ _ _ _ rfl
  have hra := h.later hba
  have HC := Lib.hid (RAt_any hra c)
  have c0 : wa.cell? ⟨rb, 0, none⟩ = some (.int .i64 (T.length : Int)) := hra.cel.cell (j := 0) rfl
  have c1 := hra.cel.cell (j := 1) rfl
  have q0 := hca.cell (j := 0) rfl
  have q1 := hca.cell (j := 1) rfl
  have q2 := hca.cell (j := 2) rfl
  have HB := Lib.hid hba
  obtain ⟨m, hm⟩ : ∃ m, T.length = m := ⟨_, rfl⟩
  unfold oneE
  cases hi : inT T.length c with
  | false =>
    rw [if_neg Bool.false_ne_true]
    rw [hm] at hi c0
    unfold inT at hi
    clear h hba hca hra HC c1 q0 q1 q2
    by_cases h0 : c < 0
    · have e1 : decide (c < 0) = true := decide_eq_true h0
      clear hi h0
      go_enter Try.func16, Try.ntmps16
      go_upto_region 1 with (fail)
      rw [← hwa]
      clear hwa
      go_wp2_with fail
      go_returns
      exact ⟨rfl, HB.out⟩
    · have e1 : decide (c < 0) = false := decide_eq_false h0
      have e2 : decide (c ≥ (m : Int)) = true := by
        rw [decide_eq_true (show 0 ≤ c by omega), Bool.true_and, decide_eq_false_iff_not] at hi
        exact decide_eq_true (by omega)
      clear hi h0
      go_enter Try.func16, Try.ntmps16
      go_upto_region 1 with (fail)
      rw [← hwa]
      clear hwa
      go_wp2_with fail
      go_returns
      exact ⟨rfl, HB.out⟩
  | true =>
    rw [if_pos rfl]
    rw [hm] at hi c0
    have e1 : decide (c < 0) = false := by
      unfold inT at hi
      rw [Bool.and_eq_true, decide_eq_true_eq] at hi
      exact decide_eq_false (by omega)
    have e2 : decide (c ≥ (m : Int)) = false := by
      unfold inT at hi
      rw [Bool.and_eq_true, decide_eq_true_eq, decide_eq_true_eq] at hi
      exact decide_eq_false (by omega)
    rcases atD_doc T c with ⟨h1, h2⟩ | ⟨k, hk, h1, h2, h3, _⟩
    · have h1 : atD c (docR T).l 0 = -1 := h1
      rw [h1] at HC
      unfold mayS
      rw [h2]
      clear h hba hca hra hi h1 h2 c1
      go_enter Try.func16, Try.ntmps16
      go_upto_region 1 with (fail)
      rw [← hwa]
      clear hwa
      go_wp2_with fail
      refine HC.out.mono ?_
      rintro e w2 ⟨rfl, hw2⟩
      rw [hw2]
      clear hw2 HC
      go_wp2_with fail
      go_quiet (fail)
      go_wp2_with fail
      go_returns
      exact ⟨rfl, HB.out.trans ((below_dr _ _).mono HB.out.size)⟩
    · have h1 : atD c (docR T).l 0 = (k : Int) := h1
      rw [h1] at HC
      obtain ⟨g, rfl, hrg, hac⟩ := hra.at (k := k) hk
      have hg : (docR T).l[k]'hk = ⟨c, (ofT T c).tid, (ofT T c).til⟩ := h3
      rw [hg] at hrg
      obtain ⟨s, hs⟩ : ∃ s, ofT T c = s := ⟨_, rfl⟩
      rw [hs] at hrg h2 ⊢
      obtain ⟨n, hn⟩ : ∃ n, (docR T).l.length = n := ⟨_, rfl⟩
      rw [hn] at c1
      have hkn : (k : Int) < (n : Int) := by rw [← hn]; exact Int.ofNat_lt.2 hk
      have hk0 : (0 : Int) ≤ (k : Int) := by omega
      have x1 := hrg 1 _ rfl
      have x2 := hrg 2 _ rfl
      have x3 := hrg 3 _ rfl
      have hq := lt_neq s.tid who
      unfold mayS
      rw [h2]
      obtain ⟨d, hd⟩ : ∃ b, decide (s.tid = who) = b := ⟨_, rfl⟩
      rw [hd] at hq ⊢
      clear h hba hca hra hi h1 h2 h3 hrg hac hg hs hn hd hk
      cases d
      all_goals
      · go_enter Try.func16, Try.ntmps16
        go_upto_region 1 with (fail)
        rw [← hwa]
        clear hwa
        go_wp2_with fail
        refine HC.out.mono ?_
        rintro e w2 ⟨rfl, hw2⟩
        rw [hw2]
        clear hw2 HC
        go_wp2_with fail
        go_quiet (fail)
        go_wp2_with fail
        go_returns
        exact ⟨rfl, HB.out.trans ((below_dr _ _).mono HB.out.size)⟩
theorem doc_length {T : List Sv} (h : Tok T) (who : Lt) (u c : Int) : (docF 0 (set1 who u T c)).length ≤ 16 := docF_le (h.set1 who u c)
set_option maxHeartbeats 4000000 in
theorem ROne_do (h : LrAt B w rb (docR T) A ac) (hok : Tok T) (who : Lt) (u : Int) {cc : Nat} (hcc : cc < T.length) (hmay : mayS who (ofT T (cc : Int)) = true) (hB : B ≤ w.heap.size) :
    Calls Try.prog 16 #[.pointer (some ⟨rb, 0, none⟩), .agg #[.int .i64 who.node, .int .i64 who.epoch, .int .i64 who.seq], .int .i64 u, .int .i64 (cc : Int), .bool true] w fun e w' => e = .returned (.int .i64 0) ∧ LrStep B rb A w (docR (set1 who u T (cc : Int))) w' := by
  obtain ⟨wa, hwa⟩ : ∃ W, W = w.alloc (.cells #[.int .i64 who.node, .int .i64 who.epoch, .int .i64 who.seq] 34) := ⟨_, rfl⟩
  have hba : Below w.heap.size w wa := by rw [hwa]; exact below_alloc _ _
  have hca : Cells wa w.heap.size 34 (lt3 who) := by rw [hwa]; exact cells_new _ _ _ _ rfl
  have hra := h.later hba
  have HC := Lib.hid (RAt_any hra (cc : Int))
  have c0 : wa.cell? ⟨rb, 0, none⟩ = some (.int .i64 (T.length : Int)) := hra.cel.cell (j := 0) rfl
  have c1 := hra.cel.cell (j := 1) rfl
  have q0 := hca.cell (j := 0) rfl
  have q1 := hca.cell (j := 1) rfl
  have q2 := hca.cell (j := 2) rfl
  have HB := Lib.hid hba
  have HCA := Lib.hid hca
  obtain ⟨m, hm⟩ : ∃ m, T.length = m := ⟨_, rfl⟩
  have e1 : decide ((cc : Int) < 0) = false := by simp
  have e2 : decide ((cc : Int) ≥ (m : Int)) = false := by rw [← hm]; simp; omega
  have hccm : cc < m := by omega
  have hdl := doc_length hok who u (cc : Int)
  obtain ⟨n, hn⟩ : ∃ n, (docR T).l.length = n := ⟨_, rfl⟩
  rw [hn] at c1
  rw [hm] at c0
  rcases atD_doc T (cc : Int) with ⟨h1, h2⟩ | ⟨k, hk, h1, h2, h3, h4⟩
  · have h1 : atD (cc : Int) (docR T).l 0 = -1 := h1
    rw [h1] at HC
    rw [ofT_nat hcc] at h2
    obtain ⟨kk, hk1, hk2, hk3, hk4⟩ := doc_ins hcc h2 (holdS who u (ofT T (cc : Int))) rfl
    have hset : docF 0 (set1 who u T (cc : Int)) = (docF 0 T).take kk ++ [⟨(cc : Int), who, u⟩] ++ (docF 0 T).drop kk := by
      show docF 0 (T.set (cc : Int).toNat _) = _
      rw [Int.toNat_natCast, hk4]
      unfold holdS
      rw [ofT_nat hcc, h2, if_neg Bool.false_ne_true]
    obtain ⟨L, hL⟩ : ∃ L, docF 0 T = L := ⟨_, rfl⟩
    rw [hL] at hk1 hk2 hk3 hset
    have hLR : (docR T).l = L := hL
    rw [hLR] at hn
    rw [hn] at hk1
    rw [hset] at hdl
    obtain ⟨p, hp⟩ : ∃ p : Dh, p = ⟨(cc : Int), who, u⟩ := ⟨_, rfl⟩
    rw [← hp] at hset hdl
    have HDH : Hid ((#[.int .i64 (cc : Int), .int .i64 who.node, .int .i64 who.epoch, .int .i64 who.seq, .int .i64 u] : Array Value).toList = Dh.vals p) := Lib.hid (by rw [hp]; rfl)
    have HSET : Hid (docR (set1 who u T (cc : Int)) = { cells := ((m : Nat) : Int), l := L.take kk ++ [p] ++ L.drop kk }) := Lib.hid (by unfold docR; rw [set1_len, hm, hset])
    have HFL : Hid ((L.take kk ++ [p] ++ L.drop kk).length ≤ 16) := Lib.hid hdl
    obtain ⟨R, hR⟩ : ∃ R : Rt, R = docR T := ⟨_, rfl⟩
    have HRC : Hid (R.cells = ((m : Nat) : Int) ∧ R.l = L) := Lib.hid (by rw [hR]; exact ⟨by show ((T.length : Nat) : Int) = _; rw [hm], hL⟩)
    rw [← hR] at hra
    have HRA := Lib.hid hra
    have HBW0 : Hid (B ≤ wa.heap.size) := Lib.hid (Nat.le_trans hB hba.size)
    have hn16 : n ≤ 16 := by have := hra.len; rw [HRC.out.2, hn] at this; exact this
    have HLN : Hid (L.length ≤ 16) := Lib.hid (by rw [hn]; exact hn16)
    have HN : Hid (R.l.length = n) := Lib.hid (by rw [HRC.out.2]; exact hn)
    have HK2 := Lib.hid hk2
    have HK3 := Lib.hid hk3
    have HLL := Lib.hid hn
    obtain ⟨xb, hxb⟩ : ∃ x, w.heap.size = x := ⟨_, rfl⟩
    have HXW : Hid (Cells wa xb 34 (lt3 who)) := Lib.hid (by rw [← hxb]; exact HCA.out)
    have HXS := Lib.hid hxb
    clear h hba hca hra h1 h2 hk2 hk3 hk4 hset hL hLR hn hdl hm hok hmay hcc hR hp hB
    go_enter Try.func16, Try.ntmps16
    go_upto_region 1 with (fail)
    rw [← hwa]
    clear hwa
    try rw [hxb]
    clear hxb
    go_wp2_with fail
    refine HC.out.mono ?_
    rintro e w2 ⟨rfl, hw2⟩
    rw [hw2]
    clear hw2 HC
    go_wp2_with fail
    go_quiet (fail)
    generalize hwe : World.drewN wa _ = we
    have hbe : Below wa.heap.size wa we := by rw [← hwe]; exact below_dr _ _
    have HR := Lib.hid (HRA.out.later hbe)
    have HXBW : Hid (Cells we xb 34 (lt3 who)) := Lib.hid (HXW.out.later hbe)
    have HBE := Lib.hid hbe
    have HBW : Hid (B ≤ we.heap.size) := Lib.hid (Nat.le_trans HBW0.out hbe.size)
    clear hwe hbe q0 q1 q2 c0 c1
    have c1 := HR.out.cel.cell (j := 1) rfl
    rw [HN.out] at c1
    go_wp2_with fail
    go_loopw [12] (fun i wr => ∃ k : Nat, k ≤ kk ∧ i = .int .i64 (k : Int) ∧ wr = we) (fun i _ => kk - (intOf i).toNat)
    case atStart => exact ⟨0, Nat.zero_le _, rfl, rfl⟩
    case round =>
      obtain ⟨k, hk, rfl, rfl⟩ := hrel
      by_cases hkk : k < kk
      · have hkL : k < L.length := by rw [HLL.out]; omega
        have hlo := HK2.out L[k] (by rw [List.mem_take_iff_getElem]; exact ⟨k, by omega, rfl⟩)
        obtain ⟨d, hd⟩ : ∃ d, L[k] = d := ⟨_, rfl⟩
        rw [hd] at hlo
        have hkR : k < R.l.length := by rw [HN.out]; omega
        obtain ⟨g, hA, hrg, hzz⟩ := HR.out.at hkR
        have hdd : R.l[k] = d := by
          have e := HRC.out.2
          have e3 : R.l[k]? = L[k]? := by rw [e]
          rw [List.getElem?_eq_getElem hkR, List.getElem?_eq_getElem hkL, hd] at e3
          exact Option.some.inj e3
        rw [hdd] at hrg
        have x0 := hrg 0 _ rfl
        rw [Nat.add_zero] at x0
        subst hA
        have hkn : (k : Int) < (n : Int) := by omega
        have e5 : decide (d.cell < (cc : Int)) = true := decide_eq_true hlo
        have hkn2 : k < n := by omega
        clear hkL hlo hd hkR hrg hzz hdd
        go_wp2_with fail
        go_roundw
        case rel => exact ⟨k + 1, by omega, by go_num, by trivial⟩
        case measure => simp [intOf]; omega
      · obtain rfl : kk = k := by omega
        clear hkk
        rcases HR.out.row.2 with ⟨hn0, hl0⟩ | ⟨g, cap, cur, hn0, _⟩
        · simp only [Value.slice.injEq] at hn0
          obtain ⟨rfl, _, rfl⟩ := hn0
          have hnil : n = 0 := by rw [← HN.out]; exact hl0
          subst hnil
          obtain rfl : kk = 0 := by omega
          have hLnil : L = [] := List.length_eq_zero_iff.1 HLL.out
          subst hLnil
          have HSET2 : Hid (docR (set1 who u T (cc : Int)) = { cells := R.cells, l := ([] : List Dh) ++ [p] ++ ([] : List Dh) }) := Lib.hid (by rw [HSET.out, HRC.out.1]; rfl)
          have HXB : Hid (∀ wi, Below wr.heap.size wr wi → Cells wi xb 34 (lt3 who)) := Lib.hid fun wi hb => HXBW.out.later hb
          have HFL2 := HFL
          clear HFL
          have HFL : Hid ((([] : List Dh) ++ [p] ++ ([] : List Dh)).length ≤ 16) := Lib.hid (by simp)
          clear hl0 HK2 HK3
          obtain ⟨we, hwe⟩ : ∃ W, wr = W := ⟨_, rfl⟩
          rw [hwe] at HR HXB HBE HBW c1 ⊢
          clear hwe
          go_upto_region 15 with (fail)
          refine Reg.region_inv (by kernel_rfl) (fun i => ([some (.pointer (some ⟨rb, 0, none⟩)), none, some (.pointer (some ⟨rb, 0, none⟩)), some (.pointer (some ⟨rb, 0, none⟩)), some (.pointer (some ⟨rb, 1, none⟩)), some (.slice none 0 0), some (.int .i64 0), some (.slice none 0 0), none, some (.int .i64 (cc : Int)), some (.agg #[.int .i64 who.node, .int .i64 who.epoch, .int .i64 who.seq]), some (.int .i64 u), some (.agg #[.int .i64 (cc : Int), .int .i64 who.node, .int .i64 who.epoch, .int .i64 who.seq, .int .i64 u]), none, none, some (.pointer (some ⟨rb, 0, none⟩)), some (.pointer (some ⟨rb, 0, none⟩)), some (.pointer (some ⟨rb, 1, none⟩)), some (.slice none 0 0), some (.int .i64 0), some (.slice none 0 0), none, some (.pointer (some ⟨rb, 0, none⟩)), some (.pointer (some ⟨rb, 1, none⟩)), none] : List (Option Value)).getD i none) (fun D V W => (D 24 = false → ApG 53 5 Dh.vals we (D 1) (cond (D 21) (V 21) (cond (D 14) (V 14) (cond (D 8) (V 8) (V 1)))) (cond (D 21) (([] : List Dh) ++ [p] ++ ([] : List Dh)) (cond (D 14) (([] : List Dh) ++ [p]) (cond (D 8) ([] : List Dh) []))) (D 13) (V 13) p W) ∧ (D 24 = true → LrStep B rb none we { cells := R.cells, l := (([] : List Dh) ++ [p] ++ ([] : List Dh)) } W)) (fun V => [(some 83, V 0), (some 84, V 1), (some 85, V 2), (some 86, V 3), (some 87, V 4), (some 88, V 5), (some 89, V 6), (some 90, V 7), (some 91, V 8), (some 92, V 9), (some 93, V 10), (some 94, V 11), (some 95, V 12), (some 96, V 13), (some 97, V 14), (some 98, V 15), (some 99, V 16), (some 100, V 17), (some 101, V 18), (some 102, V 19), (some 103, V 20), (some 104, V 21), (some 105, V 22), (some 106, V 23), (none, V 24)]) (by kernel_rfl) (by kernel_rfl) (fun V => rfl) ?_ ?_ ?_
          · intro V
            exact ⟨fun _ => ApG.start (Below.refl _ _).drew _ _ _ _, fun e => (by cases e)⟩
          · intro i o ho
            have hi : i < 25 := (Array.getElem?_eq_some_iff.1 ho).1
            rcases i with _ | _ | _ | _ | _ | _ | _ | _ | _ | _ | _ | _ | _ | _ | _ | _ | _ | _ | _ | _ | _ | _ | _ | _ | _ | i
            rotate_right
            · omega
            all_goals obtain rfl := Option.some.inj ho
            all_goals intro D V ρ wi hE hI hDi hT hF hs hd hk
            · have e0 : ρ (.tmp 0) = .pointer (some ⟨rb, 0, none⟩) := hs 0; clear hT hF hk
              exact Reg.Gives.value (v := .pointer (some ⟨rb, 0, none⟩)) (w' := wi) (by go_simp) ⟨fun x h => Option.some.inj h, hI⟩
            · have hD1 : D 1 = false := hDi; have hD8 : D 8 = false := hF 1 8; have hD14 : D 14 = false := hF 2 14; have hD21 : D 21 = false := hF 3 21; have hD24 : D 24 = false := hF 1 24; clear hT hF; have h1 := hI.1 hD24
              rw [hD1, hD8, hD14, hD21] at h1
              simp only [cond_false] at h1
              exact Reg.Gives.value (v := .slice (some ⟨wi.heap.size, 0, none⟩) 0 0) (w' := wi.alloc (.cells #[] 53)) (by go_simp) ⟨fun x h => (by cases h), by show (D 24 = false → ApG 53 5 Dh.vals we (true) (cond (D 21) (V 21) (cond (D 14) (V 14) (cond (D 8) (V 8) ((.slice (some ⟨wi.heap.size, 0, none⟩) 0 0))))) (cond (D 21) (([] : List Dh) ++ [p] ++ ([] : List Dh)) (cond (D 14) (([] : List Dh) ++ [p]) (cond (D 8) ([] : List Dh) []))) (D 13) (V 13) p (wi.alloc (.cells #[] 53))) ∧ (D 24 = true → LrStep B rb none we { cells := R.cells, l := (([] : List Dh) ++ [p] ++ ([] : List Dh)) } (wi.alloc (.cells #[] 53))); rw [hD8, hD14, hD21, hD24]; simp only [cond_false]; exact ⟨fun _ => h1.mkz, fun e => by cases e⟩⟩
            · have e0 : ρ (.tmp 0) = .pointer (some ⟨rb, 0, none⟩) := hs 0; clear hT hF hk
              exact Reg.Gives.value (v := .pointer (some ⟨rb, 0, none⟩)) (w' := wi) (by go_simp) ⟨fun x h => Option.some.inj h, hI⟩
            · have e85 : ρ (.tmp 85) = .pointer (some ⟨rb, 0, none⟩) := (hd 2 85).trans (hk 2 _ rfl); clear hT hF hk
              exact Reg.Gives.value (v := .pointer (some ⟨rb, 0, none⟩)) (w' := wi) (by go_simp) ⟨fun x h => Option.some.inj h, hI⟩
            · have e86 : ρ (.tmp 86) = .pointer (some ⟨rb, 0, none⟩) := (hd 3 86).trans (hk 3 _ rfl); clear hT hF hk
              exact Reg.Gives.value (v := .pointer (some ⟨rb, 1, none⟩)) (w' := wi) (by go_simp) ⟨fun x h => Option.some.inj h, hI⟩
            · have e87 : ρ (.tmp 87) = .pointer (some ⟨rb, 1, none⟩) := (hd 4 87).trans (hk 4 _ rfl); have hD24 : D 24 = false := hF 1 24; clear hT hF; have hL : Below we.heap.size we wi := (hI.1 hD24).low; have x0 := (HR.out.later hL).cel.cell (j := 1) rfl
              rw [HN.out] at x0
              exact Reg.Gives.value (v := .slice none 0 0) (w' := wi) (by go_simp) ⟨fun x h => Option.some.inj h, hI⟩
            · have e12 : ρ (.tmp 12) = .int .i64 0 := hs 12; clear hT hF hk
              exact Reg.Gives.value (v := .int .i64 0) (w' := wi) (by go_simp) ⟨fun x h => Option.some.inj h, hI⟩
            · have e88 : ρ (.tmp 88) = .slice none 0 0 := (hd 5 88).trans (hk 5 _ rfl); have e89 : ρ (.tmp 89) = .int .i64 0 := (hd 6 89).trans (hk 6 _ rfl); clear hT hF hk
              exact Reg.Gives.value (v := .slice none 0 0) (w' := wi) (by go_simp) ⟨fun x h => Option.some.inj h, hI⟩
            · have e84 : ρ (.tmp 84) = V 1 := hd 1 84; have e90 : ρ (.tmp 90) = .slice none 0 0 := (hd 7 90).trans (hk 7 _ rfl); have hD1 : D 1 = true := hT 1 1; have hD8 : D 8 = false := hDi; have hD14 : D 14 = false := hF 1 14; have hD21 : D 21 = false := hF 2 21; have hD24 : D 24 = false := hF 1 24; clear hT hF; have h1 := hI.1 hD24
              rw [hD1, hD8, hD14, hD21] at h1
              simp only [cond_false] at h1
              obtain ⟨A2, n2, c2, w2, hrun, hn⟩ := ApG.app el_rd fit_dh h1 (m := ([] : List Dh)) (sl_nil _ _ _) (fun _ => rfl) (by have := HLN.out; simp <;> omega)
              exact Reg.Gives.value (v := .slice A2 n2 c2) (w' := w2) (Reg.exec_append rfl e84 e90 hrun) ⟨fun x h => (by cases h), by show (D 24 = false → ApG 53 5 Dh.vals we (D 1) (cond (D 21) (V 21) (cond (D 14) (V 14) (cond (true) ((.slice A2 n2 c2)) (V 1)))) (cond (D 21) (([] : List Dh) ++ [p] ++ ([] : List Dh)) (cond (D 14) (([] : List Dh) ++ [p]) (cond (true) ([] : List Dh) []))) (D 13) (V 13) p w2) ∧ (D 24 = true → LrStep B rb none we { cells := R.cells, l := (([] : List Dh) ++ [p] ++ ([] : List Dh)) } w2); rw [hD1, hD14, hD21, hD24]; simp only [cond_false, cond_true]; exact ⟨fun _ => hn, fun e => by cases e⟩⟩
            · have e3 : ρ (.tmp 3) = .int .i64 (cc : Int) := hs 3; clear hT hF hk
              exact Reg.Gives.value (v := .int .i64 (cc : Int)) (w' := wi) (by go_simp) ⟨fun x h => Option.some.inj h, hI⟩
            · have e6 : ρ (.tmp 6) = .pointer (some ⟨xb, 0, none⟩) := hs 6; have hD24 : D 24 = false := hF 1 24; clear hT hF; have hL : Below we.heap.size we wi := (hI.1 hD24).low; have hq := HXB.out wi hL; have q0 := hq.cell (j := 0) rfl; have q1 := hq.cell (j := 1) rfl; have q2 := hq.cell (j := 2) rfl
              exact Reg.Gives.value (v := .agg #[.int .i64 who.node, .int .i64 who.epoch, .int .i64 who.seq]) (w' := wi) (by go_simp) ⟨fun x h => Option.some.inj h, hI⟩
            · have e2 : ρ (.tmp 2) = .int .i64 u := hs 2; clear hT hF hk
              exact Reg.Gives.value (v := .int .i64 u) (w' := wi) (by go_simp) ⟨fun x h => Option.some.inj h, hI⟩
            · have e92 : ρ (.tmp 92) = .int .i64 (cc : Int) := (hd 9 92).trans (hk 9 _ rfl); have e93 : ρ (.tmp 93) = .agg #[.int .i64 who.node, .int .i64 who.epoch, .int .i64 who.seq] := (hd 10 93).trans (hk 10 _ rfl); have e94 : ρ (.tmp 94) = .int .i64 u := (hd 11 94).trans (hk 11 _ rfl); clear hT hF hk
              exact Reg.Gives.value (v := .agg #[.int .i64 (cc : Int), .int .i64 who.node, .int .i64 who.epoch, .int .i64 who.seq, .int .i64 u]) (w' := wi) (by go_simp) ⟨fun x h => Option.some.inj h, hI⟩
            · have e95 : ρ (.tmp 95) = .agg #[.int .i64 (cc : Int), .int .i64 who.node, .int .i64 who.epoch, .int .i64 who.seq, .int .i64 u] := (hd 12 95).trans (hk 12 _ rfl); have hD13 : D 13 = false := hDi; have hD24 : D 24 = false := hF 1 24; clear hT hF; have h1 := hI.1 hD24
              rw [hD13] at h1
              have hk := h1.mkx #[.int .i64 (cc : Int), .int .i64 who.node, .int .i64 who.epoch, .int .i64 who.seq, .int .i64 u] HDH.out
              exact Reg.Gives.value (v := .slice (some ⟨wi.heap.size, 0, none⟩) 1 1) (w' := wi.alloc (.cells #[.int .i64 (cc : Int), .int .i64 who.node, .int .i64 who.epoch, .int .i64 who.seq, .int .i64 u] 53)) (by go_simp) ⟨fun x h => (by cases h), by show (D 24 = false → ApG 53 5 Dh.vals we (D 1) (cond (D 21) (V 21) (cond (D 14) (V 14) (cond (D 8) (V 8) (V 1)))) (cond (D 21) (([] : List Dh) ++ [p] ++ ([] : List Dh)) (cond (D 14) (([] : List Dh) ++ [p]) (cond (D 8) ([] : List Dh) []))) (true) ((.slice (some ⟨wi.heap.size, 0, none⟩) 1 1)) p (wi.alloc (.cells #[.int .i64 (cc : Int), .int .i64 who.node, .int .i64 who.epoch, .int .i64 who.seq, .int .i64 u] 53))) ∧ (D 24 = true → LrStep B rb none we { cells := R.cells, l := (([] : List Dh) ++ [p] ++ ([] : List Dh)) } (wi.alloc (.cells #[.int .i64 (cc : Int), .int .i64 who.node, .int .i64 who.epoch, .int .i64 who.seq, .int .i64 u] 53))); rw [hD24]; exact ⟨fun _ => hk, fun e => by cases e⟩⟩
            · have e91 : ρ (.tmp 91) = V 8 := hd 8 91; have e96 : ρ (.tmp 96) = V 13 := hd 13 96; have hD1 : D 1 = true := hT 2 1; have hD8 : D 8 = true := hT 1 8; have hD13 : D 13 = true := hT 1 13; have hD14 : D 14 = false := hDi; have hD21 : D 21 = false := hF 1 21; have hD24 : D 24 = false := hF 1 24; clear hT hF; have h1 := hI.1 hD24
              rw [hD1, hD8, hD13, hD14, hD21] at h1
              simp only [cond_false, cond_true] at h1
              obtain ⟨g2, A2, n2, c2, w2, hv2, hrun, hn⟩ := ApG.one el_rd fit_dh h1 (by have := HLN.out; simp <;> omega)
              have e97 := e96
              rw [hv2] at e97
              exact Reg.Gives.value (v := .slice A2 n2 c2) (w' := w2) (Reg.exec_append rfl e91 e97 hrun) ⟨fun x h => (by cases h), by show (D 24 = false → ApG 53 5 Dh.vals we (D 1) (cond (D 21) (V 21) (cond (true) ((.slice A2 n2 c2)) (cond (D 8) (V 8) (V 1)))) (cond (D 21) (([] : List Dh) ++ [p] ++ ([] : List Dh)) (cond (true) (([] : List Dh) ++ [p]) (cond (D 8) ([] : List Dh) []))) (D 13) (V 13) p w2) ∧ (D 24 = true → LrStep B rb none we { cells := R.cells, l := (([] : List Dh) ++ [p] ++ ([] : List Dh)) } w2); rw [hD1, hD8, hD13, hD21, hD24]; simp only [cond_false, cond_true]; exact ⟨fun _ => hn, fun e => by cases e⟩⟩
            · have e0 : ρ (.tmp 0) = .pointer (some ⟨rb, 0, none⟩) := hs 0; clear hT hF hk
              exact Reg.Gives.value (v := .pointer (some ⟨rb, 0, none⟩)) (w' := wi) (by go_simp) ⟨fun x h => Option.some.inj h, hI⟩
            · have e98 : ρ (.tmp 98) = .pointer (some ⟨rb, 0, none⟩) := (hd 15 98).trans (hk 15 _ rfl); clear hT hF hk
              exact Reg.Gives.value (v := .pointer (some ⟨rb, 0, none⟩)) (w' := wi) (by go_simp) ⟨fun x h => Option.some.inj h, hI⟩
            · have e99 : ρ (.tmp 99) = .pointer (some ⟨rb, 0, none⟩) := (hd 16 99).trans (hk 16 _ rfl); clear hT hF hk
              exact Reg.Gives.value (v := .pointer (some ⟨rb, 1, none⟩)) (w' := wi) (by go_simp) ⟨fun x h => Option.some.inj h, hI⟩
            · have e100 : ρ (.tmp 100) = .pointer (some ⟨rb, 1, none⟩) := (hd 17 100).trans (hk 17 _ rfl); have hD24 : D 24 = false := hF 1 24; clear hT hF; have hL : Below we.heap.size we wi := (hI.1 hD24).low; have x0 := (HR.out.later hL).cel.cell (j := 1) rfl
              rw [HN.out] at x0
              exact Reg.Gives.value (v := .slice none 0 0) (w' := wi) (by go_simp) ⟨fun x h => Option.some.inj h, hI⟩
            · have e12 : ρ (.tmp 12) = .int .i64 0 := hs 12; clear hT hF hk
              exact Reg.Gives.value (v := .int .i64 0) (w' := wi) (by go_simp) ⟨fun x h => Option.some.inj h, hI⟩
            · have e101 : ρ (.tmp 101) = .slice none 0 0 := (hd 18 101).trans (hk 18 _ rfl); have e102 : ρ (.tmp 102) = .int .i64 0 := (hd 19 102).trans (hk 19 _ rfl); clear hT hF hk
              exact Reg.Gives.value (v := .slice none 0 0) (w' := wi) (by go_simp) ⟨fun x h => Option.some.inj h, hI⟩
            · have e97 : ρ (.tmp 97) = V 14 := hd 14 97; have e103 : ρ (.tmp 103) = .slice none 0 0 := (hd 20 103).trans (hk 20 _ rfl); have hD1 : D 1 = true := hT 3 1; have hD8 : D 8 = true := hT 2 8; have hD13 : D 13 = true := hT 2 13; have hD14 : D 14 = true := hT 1 14; have hD21 : D 21 = false := hDi; have hD24 : D 24 = false := hF 1 24; clear hT hF; have h1 := hI.1 hD24
              rw [hD1, hD8, hD13, hD14, hD21] at h1
              simp only [cond_false, cond_true] at h1
              obtain ⟨A2, n2, c2, w2, hrun, hn⟩ := ApG.app el_rd fit_dh h1 (m := ([] : List Dh)) (sl_nil _ _ _) (fun _ => rfl) (by have := HLN.out; simp <;> omega)
              exact Reg.Gives.value (v := .slice A2 n2 c2) (w' := w2) (Reg.exec_append rfl e97 e103 hrun) ⟨fun x h => (by cases h), by show (D 24 = false → ApG 53 5 Dh.vals we (D 1) (cond (true) ((.slice A2 n2 c2)) (cond (D 14) (V 14) (cond (D 8) (V 8) (V 1)))) (cond (true) (([] : List Dh) ++ [p] ++ ([] : List Dh)) (cond (D 14) (([] : List Dh) ++ [p]) (cond (D 8) ([] : List Dh) []))) (D 13) (V 13) p w2) ∧ (D 24 = true → LrStep B rb none we { cells := R.cells, l := (([] : List Dh) ++ [p] ++ ([] : List Dh)) } w2); rw [hD1, hD8, hD13, hD14, hD24]; simp only [cond_true]; exact ⟨fun _ => hn, fun e => by cases e⟩⟩
            · have e83 : ρ (.tmp 83) = .pointer (some ⟨rb, 0, none⟩) := (hd 0 83).trans (hk 0 _ rfl); clear hT hF hk
              exact Reg.Gives.value (v := .pointer (some ⟨rb, 0, none⟩)) (w' := wi) (by go_simp) ⟨fun x h => Option.some.inj h, hI⟩
            · have e105 : ρ (.tmp 105) = .pointer (some ⟨rb, 0, none⟩) := (hd 22 105).trans (hk 22 _ rfl); clear hT hF hk
              exact Reg.Gives.value (v := .pointer (some ⟨rb, 1, none⟩)) (w' := wi) (by go_simp) ⟨fun x h => Option.some.inj h, hI⟩
            · have e106 : ρ (.tmp 106) = .pointer (some ⟨rb, 1, none⟩) := (hd 23 106).trans (hk 23 _ rfl); have e104 : ρ (.tmp 104) = V 21 := hd 21 104; have hD1 : D 1 = true := hT 1 1; have hD8 : D 8 = true := hT 1 8; have hD13 : D 13 = true := hT 1 13; have hD14 : D 14 = true := hT 1 14; have hD21 : D 21 = true := hT 1 21; have hD24 : D 24 = false := hDi; clear hT hF; have h1 := hI.1 hD24
              rw [hD1, hD8, hD13, hD14, hD21] at h1
              simp only [cond_true] at h1
              have hac := h1.acc rfl; have hrl := HR.out.later h1.low; have x0 := hrl.cel.cell (j := 1) rfl
              have x1 := hrl.cel.frozen (j := 1) (by simp)
              have hfin := HR.out.newL HBW.out h1.low hac (by exact HFL.out)
              obtain ⟨A2, c2, hv2⟩ := row_slice hac; obtain ⟨n3, hn3⟩ : ∃ n3, List.length (([] : List Dh) ++ [p] ++ ([] : List Dh)) = n3 := ⟨_, rfl⟩
              rw [hn3] at hv2
              rw [hv2] at hfin
              have e9 := e104
              rw [hv2] at e9
              clear e104
              exact Reg.Gives.skip (w' := wi.setCell ⟨rb, 1, none⟩ (.slice A2 n3 c2)) (by go_simp) ⟨fun x h => (by cases h), by show (true = false → ApG 53 5 Dh.vals we (D 1) (cond (D 21) (V 21) (cond (D 14) (V 14) (cond (D 8) (V 8) (V 1)))) (cond (D 21) (([] : List Dh) ++ [p] ++ ([] : List Dh)) (cond (D 14) (([] : List Dh) ++ [p]) (cond (D 8) ([] : List Dh) []))) (D 13) (V 13) p (wi.setCell ⟨rb, 1, none⟩ (.slice A2 n3 c2))) ∧ (true = true → LrStep B rb none we { cells := R.cells, l := (([] : List Dh) ++ [p] ++ ([] : List Dh)) } (wi.setCell ⟨rb, 1, none⟩ (.slice A2 n3 c2))); exact ⟨fun e => (by cases e), fun _ => hfin⟩⟩
          · intro V wf hk hI
            simp only [Reg.putsO, List.foldl_cons, List.foldl_nil, Act.put, List.setIfInBounds_toArray, List.set_cons_succ, List.set_cons_zero]
            replace hI : ((fun _ => true) 24 = false → ApG 53 5 Dh.vals we true (cond true (V 21) (cond true (V 14) (cond true (V 8) (V 1)))) (cond true (([] : List Dh) ++ [p] ++ ([] : List Dh)) (cond true (([] : List Dh) ++ [p]) (cond true ([] : List Dh) []))) true (V 13) p wf) ∧ ((fun _ => true) 24 = true → LrStep B rb none we { cells := R.cells, l := (([] : List Dh) ++ [p] ++ ([] : List Dh)) } wf) := hI
            clear hk
            have HS := Lib.hid (hI.2 rfl)
            clear hI
            go_wp2_with fail
            go_returns
            exact ⟨rfl, by rw [HSET2.out]; exact LxStep.before (HB.out.trans (HBE.out.mono HB.out.size)) HS.out⟩
        · simp only [Value.slice.injEq] at hn0
          obtain ⟨rfl, hz1, hz2⟩ := hn0
          clear hz1 hz2
          have hkL : kk ≤ R.l.length := by rw [HN.out]; exact hk1
          obtain ⟨hac, AD, hAD, hDS⟩ := HR.out.from hkL
          rw [HRC.out.2] at hDS
          rw [HN.out] at hac
          have HSET2 : Hid (docR (set1 who u T (cc : Int)) = { cells := R.cells, l := L.take kk ++ [p] ++ L.drop kk }) := Lib.hid (by rw [HSET.out, HRC.out.1])
          have HXB : Hid (∀ wi, Below wr.heap.size wr wi → Cells wi xb 34 (lt3 who)) := Lib.hid fun wi hb => HXBW.out.later hb
          have HAD := Lib.hid hAD
          have HDS := Lib.hid hDS
          have HTS : Hid (∀ wi, Below wr.heap.size wr wi → Sl wi (some ⟨g, 0, none⟩) 5 ((L.take kk).map Dh.vals)) := Lib.hid (fun wi hb => by
            have h1 := (HR.out.later hb).sl
            rw [HRC.out.2] at h1
            rw [List.map_take]
            exact sl_take' h1 kk)
          have HI : Hid (kk ≤ n ∧ n ≤ ac ∧ n ≤ 16 ∧ (L.take kk).length = kk ∧ (L.drop kk).length = n - kk) := Lib.hid ⟨hk1, hac, hn16, by rw [List.length_take, HLL.out]; omega, by rw [List.length_drop, HLL.out]⟩
          have HEND : Hid (∀ hq : kk < L.length, ¬ L[kk].cell < (cc : Int)) := Lib.hid fun hq => by have h1 := HK3.out hq; omega
          have HAT : Hid (∀ hq : kk < L.length, wr.cell? ⟨g, kk * 5, none⟩ = some (.int .i64 L[kk].cell)) := Lib.hid fun hq => by
            have hkR : kk < R.l.length := by rw [HRC.out.2]; exact hq
            obtain ⟨g2, hA, hrg, hzz⟩ := HR.out.at hkR
            simp only [Option.some.injEq, Addr.mk.injEq, and_true] at hA
            subst hA
            have hdd : R.l[kk] = L[kk] := by
              have e := HRC.out.2
              have e3 : R.l[kk]? = L[kk]? := by rw [e]
              rw [List.getElem?_eq_getElem hkR, List.getElem?_eq_getElem hq] at e3
              exact Option.some.inj e3
            rw [hdd] at hrg
            have x0 := hrg 0 _ rfl
            rwa [Nat.add_zero] at x0
          clear hkL hac hAD hDS HK2 HK3
          obtain ⟨we, hwe⟩ : ∃ W, wr = W := ⟨_, rfl⟩
          rw [hwe] at HR HXB HBE HBW HTS HDS HAT c1 ⊢
          clear hwe
          by_cases hkn : kk < n
          · have hq : kk < L.length := by rw [HLL.out]; exact hkn
            have x0 := HAT.out hq
            have e5 : decide (L[kk].cell < (cc : Int)) = false := decide_eq_false (HEND.out hq)
            obtain ⟨dc, hdc⟩ : ∃ d, L[kk].cell = d := ⟨_, rfl⟩
            rw [hdc] at x0 e5
            have hkn2 : (kk : Int) < (n : Int) := by omega
            clear hq hdc
            go_upto_region 15 with (fail)
            refine Reg.region_inv (by kernel_rfl) (fun i => ([some (.pointer (some ⟨rb, 0, none⟩)), none, some (.pointer (some ⟨rb, 0, none⟩)), some (.pointer (some ⟨rb, 0, none⟩)), some (.pointer (some ⟨rb, 1, none⟩)), some (.slice (some ⟨g, 0, none⟩) n ac), some (.int .i64 (kk : Int)), some (.slice (some ⟨g, 0, none⟩) kk ac), none, some (.int .i64 (cc : Int)), some (.agg #[.int .i64 who.node, .int .i64 who.epoch, .int .i64 who.seq]), some (.int .i64 u), some (.agg #[.int .i64 (cc : Int), .int .i64 who.node, .int .i64 who.epoch, .int .i64 who.seq, .int .i64 u]), none, none, some (.pointer (some ⟨rb, 0, none⟩)), some (.pointer (some ⟨rb, 0, none⟩)), some (.pointer (some ⟨rb, 1, none⟩)), some (.slice (some ⟨g, 0, none⟩) n ac), some (.int .i64 (kk : Int)), some (.slice (some AD) (n - kk) (ac - kk)), none, some (.pointer (some ⟨rb, 0, none⟩)), some (.pointer (some ⟨rb, 1, none⟩)), none] : List (Option Value)).getD i none) (fun D V W => (D 24 = false → ApG 53 5 Dh.vals we (D 1) (cond (D 21) (V 21) (cond (D 14) (V 14) (cond (D 8) (V 8) (V 1)))) (cond (D 21) ((L.take kk) ++ [p] ++ (L.drop kk)) (cond (D 14) ((L.take kk) ++ [p]) (cond (D 8) (L.take kk) []))) (D 13) (V 13) p W) ∧ (D 24 = true → LrStep B rb (some ⟨g, 0, none⟩) we { cells := R.cells, l := ((L.take kk) ++ [p] ++ (L.drop kk)) } W)) (fun V => [(some 83, V 0), (some 84, V 1), (some 85, V 2), (some 86, V 3), (some 87, V 4), (some 88, V 5), (some 89, V 6), (some 90, V 7), (some 91, V 8), (some 92, V 9), (some 93, V 10), (some 94, V 11), (some 95, V 12), (some 96, V 13), (some 97, V 14), (some 98, V 15), (some 99, V 16), (some 100, V 17), (some 101, V 18), (some 102, V 19), (some 103, V 20), (some 104, V 21), (some 105, V 22), (some 106, V 23), (none, V 24)]) (by kernel_rfl) (by kernel_rfl) (fun V => rfl) ?_ ?_ ?_
            · intro V
              exact ⟨fun _ => ApG.start (Below.refl _ _).drew _ _ _ _, fun e => (by cases e)⟩
            · intro i o ho
              have hi : i < 25 := (Array.getElem?_eq_some_iff.1 ho).1
              rcases i with _ | _ | _ | _ | _ | _ | _ | _ | _ | _ | _ | _ | _ | _ | _ | _ | _ | _ | _ | _ | _ | _ | _ | _ | _ | i
              rotate_right
              · omega
              all_goals obtain rfl := Option.some.inj ho
              all_goals intro D V ρ wi hE hI hDi hT hF hs hd hk
              · have e0 : ρ (.tmp 0) = .pointer (some ⟨rb, 0, none⟩) := hs 0; clear hT hF hk
                exact Reg.Gives.value (v := .pointer (some ⟨rb, 0, none⟩)) (w' := wi) (by go_simp) ⟨fun x h => Option.some.inj h, hI⟩
              · have hD1 : D 1 = false := hDi; have hD8 : D 8 = false := hF 1 8; have hD14 : D 14 = false := hF 2 14; have hD21 : D 21 = false := hF 3 21; have hD24 : D 24 = false := hF 1 24; clear hT hF; have h1 := hI.1 hD24
                rw [hD1, hD8, hD14, hD21] at h1
                simp only [cond_false] at h1
                exact Reg.Gives.value (v := .slice (some ⟨wi.heap.size, 0, none⟩) 0 0) (w' := wi.alloc (.cells #[] 53)) (by go_simp) ⟨fun x h => (by cases h), by show (D 24 = false → ApG 53 5 Dh.vals we (true) (cond (D 21) (V 21) (cond (D 14) (V 14) (cond (D 8) (V 8) ((.slice (some ⟨wi.heap.size, 0, none⟩) 0 0))))) (cond (D 21) ((L.take kk) ++ [p] ++ (L.drop kk)) (cond (D 14) ((L.take kk) ++ [p]) (cond (D 8) (L.take kk) []))) (D 13) (V 13) p (wi.alloc (.cells #[] 53))) ∧ (D 24 = true → LrStep B rb (some ⟨g, 0, none⟩) we { cells := R.cells, l := ((L.take kk) ++ [p] ++ (L.drop kk)) } (wi.alloc (.cells #[] 53))); rw [hD8, hD14, hD21, hD24]; simp only [cond_false]; exact ⟨fun _ => h1.mkz, fun e => by cases e⟩⟩
              · have e0 : ρ (.tmp 0) = .pointer (some ⟨rb, 0, none⟩) := hs 0; clear hT hF hk
                exact Reg.Gives.value (v := .pointer (some ⟨rb, 0, none⟩)) (w' := wi) (by go_simp) ⟨fun x h => Option.some.inj h, hI⟩
              · have e85 : ρ (.tmp 85) = .pointer (some ⟨rb, 0, none⟩) := (hd 2 85).trans (hk 2 _ rfl); clear hT hF hk
                exact Reg.Gives.value (v := .pointer (some ⟨rb, 0, none⟩)) (w' := wi) (by go_simp) ⟨fun x h => Option.some.inj h, hI⟩
              · have e86 : ρ (.tmp 86) = .pointer (some ⟨rb, 0, none⟩) := (hd 3 86).trans (hk 3 _ rfl); clear hT hF hk
                exact Reg.Gives.value (v := .pointer (some ⟨rb, 1, none⟩)) (w' := wi) (by go_simp) ⟨fun x h => Option.some.inj h, hI⟩
              · have e87 : ρ (.tmp 87) = .pointer (some ⟨rb, 1, none⟩) := (hd 4 87).trans (hk 4 _ rfl); have hD24 : D 24 = false := hF 1 24; clear hT hF; have hL : Below we.heap.size we wi := (hI.1 hD24).low; have x0 := (HR.out.later hL).cel.cell (j := 1) rfl
                rw [HN.out] at x0
                exact Reg.Gives.value (v := .slice (some ⟨g, 0, none⟩) n ac) (w' := wi) (by go_simp) ⟨fun x h => Option.some.inj h, hI⟩
              · have e12 : ρ (.tmp 12) = .int .i64 (kk : Int) := hs 12; clear hT hF hk
                exact Reg.Gives.value (v := .int .i64 (kk : Int)) (w' := wi) (by go_simp) ⟨fun x h => Option.some.inj h, hI⟩
              · have e88 : ρ (.tmp 88) = .slice (some ⟨g, 0, none⟩) n ac := (hd 5 88).trans (hk 5 _ rfl); have e89 : ρ (.tmp 89) = .int .i64 (kk : Int) := (hd 6 89).trans (hk 6 _ rfl); have hD24 : D 24 = false := hF 1 24; clear hT hF; have hL : Below we.heap.size we wi := (hI.1 hD24).low; have z0 := HI.out.1
                have z1 : kk ≤ ac := by have := HI.out; omega
                have z2 : kk ≤ n := by have := HI.out; omega
                have z3 : (kk : Int) ≤ (ac : Int) := by omega
                exact Reg.Gives.value (v := .slice (some ⟨g, 0, none⟩) kk ac) (w' := wi) (by go_simp) ⟨fun x h => Option.some.inj h, hI⟩
              · have e84 : ρ (.tmp 84) = V 1 := hd 1 84; have e90 : ρ (.tmp 90) = .slice (some ⟨g, 0, none⟩) kk ac := (hd 7 90).trans (hk 7 _ rfl); have hD1 : D 1 = true := hT 1 1; have hD8 : D 8 = false := hDi; have hD14 : D 14 = false := hF 1 14; have hD21 : D 21 = false := hF 2 21; have hD24 : D 24 = false := hF 1 24; clear hT hF; have h1 := hI.1 hD24
                rw [hD1, hD8, hD14, hD21] at h1
                simp only [cond_false] at h1
                obtain ⟨A2, n2, c2, w2, hrun, hn⟩ := ApG.app el_rd fit_dh h1 (m := (L.take kk)) (HTS.out wi h1.low) (fun e => by cases e) (by have := HLN.out; simp <;> omega)
                rw [HI.out.2.2.2.1] at hrun
                exact Reg.Gives.value (v := .slice A2 n2 c2) (w' := w2) (Reg.exec_append rfl e84 e90 hrun) ⟨fun x h => (by cases h), by show (D 24 = false → ApG 53 5 Dh.vals we (D 1) (cond (D 21) (V 21) (cond (D 14) (V 14) (cond (true) ((.slice A2 n2 c2)) (V 1)))) (cond (D 21) ((L.take kk) ++ [p] ++ (L.drop kk)) (cond (D 14) ((L.take kk) ++ [p]) (cond (true) (L.take kk) []))) (D 13) (V 13) p w2) ∧ (D 24 = true → LrStep B rb (some ⟨g, 0, none⟩) we { cells := R.cells, l := ((L.take kk) ++ [p] ++ (L.drop kk)) } w2); rw [hD1, hD14, hD21, hD24]; simp only [cond_false, cond_true]; exact ⟨fun _ => hn, fun e => by cases e⟩⟩
              · have e3 : ρ (.tmp 3) = .int .i64 (cc : Int) := hs 3; clear hT hF hk
                exact Reg.Gives.value (v := .int .i64 (cc : Int)) (w' := wi) (by go_simp) ⟨fun x h => Option.some.inj h, hI⟩
              · have e6 : ρ (.tmp 6) = .pointer (some ⟨xb, 0, none⟩) := hs 6; have hD24 : D 24 = false := hF 1 24; clear hT hF; have hL : Below we.heap.size we wi := (hI.1 hD24).low; have hq := HXB.out wi hL; have q0 := hq.cell (j := 0) rfl; have q1 := hq.cell (j := 1) rfl; have q2 := hq.cell (j := 2) rfl
                exact Reg.Gives.value (v := .agg #[.int .i64 who.node, .int .i64 who.epoch, .int .i64 who.seq]) (w' := wi) (by go_simp) ⟨fun x h => Option.some.inj h, hI⟩
              · have e2 : ρ (.tmp 2) = .int .i64 u := hs 2; clear hT hF hk
                exact Reg.Gives.value (v := .int .i64 u) (w' := wi) (by go_simp) ⟨fun x h => Option.some.inj h, hI⟩
              · have e92 : ρ (.tmp 92) = .int .i64 (cc : Int) := (hd 9 92).trans (hk 9 _ rfl); have e93 : ρ (.tmp 93) = .agg #[.int .i64 who.node, .int .i64 who.epoch, .int .i64 who.seq] := (hd 10 93).trans (hk 10 _ rfl); have e94 : ρ (.tmp 94) = .int .i64 u := (hd 11 94).trans (hk 11 _ rfl); clear hT hF hk
                exact Reg.Gives.value (v := .agg #[.int .i64 (cc : Int), .int .i64 who.node, .int .i64 who.epoch, .int .i64 who.seq, .int .i64 u]) (w' := wi) (by go_simp) ⟨fun x h => Option.some.inj h, hI⟩
              · have e95 : ρ (.tmp 95) = .agg #[.int .i64 (cc : Int), .int .i64 who.node, .int .i64 who.epoch, .int .i64 who.seq, .int .i64 u] := (hd 12 95).trans (hk 12 _ rfl); have hD13 : D 13 = false := hDi; have hD24 : D 24 = false := hF 1 24; clear hT hF; have h1 := hI.1 hD24
                rw [hD13] at h1
                have hk := h1.mkx #[.int .i64 (cc : Int), .int .i64 who.node, .int .i64 who.epoch, .int .i64 who.seq, .int .i64 u] HDH.out
                exact Reg.Gives.value (v := .slice (some ⟨wi.heap.size, 0, none⟩) 1 1) (w' := wi.alloc (.cells #[.int .i64 (cc : Int), .int .i64 who.node, .int .i64 who.epoch, .int .i64 who.seq, .int .i64 u] 53)) (by go_simp) ⟨fun x h => (by cases h), by show (D 24 = false → ApG 53 5 Dh.vals we (D 1) (cond (D 21) (V 21) (cond (D 14) (V 14) (cond (D 8) (V 8) (V 1)))) (cond (D 21) ((L.take kk) ++ [p] ++ (L.drop kk)) (cond (D 14) ((L.take kk) ++ [p]) (cond (D 8) (L.take kk) []))) (true) ((.slice (some ⟨wi.heap.size, 0, none⟩) 1 1)) p (wi.alloc (.cells #[.int .i64 (cc : Int), .int .i64 who.node, .int .i64 who.epoch, .int .i64 who.seq, .int .i64 u] 53))) ∧ (D 24 = true → LrStep B rb (some ⟨g, 0, none⟩) we { cells := R.cells, l := ((L.take kk) ++ [p] ++ (L.drop kk)) } (wi.alloc (.cells #[.int .i64 (cc : Int), .int .i64 who.node, .int .i64 who.epoch, .int .i64 who.seq, .int .i64 u] 53))); rw [hD24]; exact ⟨fun _ => hk, fun e => by cases e⟩⟩
              · have e91 : ρ (.tmp 91) = V 8 := hd 8 91; have e96 : ρ (.tmp 96) = V 13 := hd 13 96; have hD1 : D 1 = true := hT 2 1; have hD8 : D 8 = true := hT 1 8; have hD13 : D 13 = true := hT 1 13; have hD14 : D 14 = false := hDi; have hD21 : D 21 = false := hF 1 21; have hD24 : D 24 = false := hF 1 24; clear hT hF; have h1 := hI.1 hD24
                rw [hD1, hD8, hD13, hD14, hD21] at h1
                simp only [cond_false, cond_true] at h1
                obtain ⟨g2, A2, n2, c2, w2, hv2, hrun, hn⟩ := ApG.one el_rd fit_dh h1 (by have := HLN.out; simp <;> omega)
                have e97 := e96
                rw [hv2] at e97
                exact Reg.Gives.value (v := .slice A2 n2 c2) (w' := w2) (Reg.exec_append rfl e91 e97 hrun) ⟨fun x h => (by cases h), by show (D 24 = false → ApG 53 5 Dh.vals we (D 1) (cond (D 21) (V 21) (cond (true) ((.slice A2 n2 c2)) (cond (D 8) (V 8) (V 1)))) (cond (D 21) ((L.take kk) ++ [p] ++ (L.drop kk)) (cond (true) ((L.take kk) ++ [p]) (cond (D 8) (L.take kk) []))) (D 13) (V 13) p w2) ∧ (D 24 = true → LrStep B rb (some ⟨g, 0, none⟩) we { cells := R.cells, l := ((L.take kk) ++ [p] ++ (L.drop kk)) } w2); rw [hD1, hD8, hD13, hD21, hD24]; simp only [cond_false, cond_true]; exact ⟨fun _ => hn, fun e => by cases e⟩⟩
              · have e0 : ρ (.tmp 0) = .pointer (some ⟨rb, 0, none⟩) := hs 0; clear hT hF hk
                exact Reg.Gives.value (v := .pointer (some ⟨rb, 0, none⟩)) (w' := wi) (by go_simp) ⟨fun x h => Option.some.inj h, hI⟩
              · have e98 : ρ (.tmp 98) = .pointer (some ⟨rb, 0, none⟩) := (hd 15 98).trans (hk 15 _ rfl); clear hT hF hk
                exact Reg.Gives.value (v := .pointer (some ⟨rb, 0, none⟩)) (w' := wi) (by go_simp) ⟨fun x h => Option.some.inj h, hI⟩
              · have e99 : ρ (.tmp 99) = .pointer (some ⟨rb, 0, none⟩) := (hd 16 99).trans (hk 16 _ rfl); clear hT hF hk
                exact Reg.Gives.value (v := .pointer (some ⟨rb, 1, none⟩)) (w' := wi) (by go_simp) ⟨fun x h => Option.some.inj h, hI⟩
              · have e100 : ρ (.tmp 100) = .pointer (some ⟨rb, 1, none⟩) := (hd 17 100).trans (hk 17 _ rfl); have hD24 : D 24 = false := hF 1 24; clear hT hF; have hL : Below we.heap.size we wi := (hI.1 hD24).low; have x0 := (HR.out.later hL).cel.cell (j := 1) rfl
                rw [HN.out] at x0
                exact Reg.Gives.value (v := .slice (some ⟨g, 0, none⟩) n ac) (w' := wi) (by go_simp) ⟨fun x h => Option.some.inj h, hI⟩
              · have e12 : ρ (.tmp 12) = .int .i64 (kk : Int) := hs 12; clear hT hF hk
                exact Reg.Gives.value (v := .int .i64 (kk : Int)) (w' := wi) (by go_simp) ⟨fun x h => Option.some.inj h, hI⟩
              · have e101 : ρ (.tmp 101) = .slice (some ⟨g, 0, none⟩) n ac := (hd 18 101).trans (hk 18 _ rfl); have e102 : ρ (.tmp 102) = .int .i64 (kk : Int) := (hd 19 102).trans (hk 19 _ rfl); have hD24 : D 24 = false := hF 1 24; clear hT hF; have hL : Below we.heap.size we wi := (hI.1 hD24).low
                have z1 : kk ≤ n := by have := HI.out; omega
                have z2 : kk ≤ ac := by have := HI.out; omega
                have z3 : (0 : Int) ≤ (kk : Int) := by omega
                have z4 : (kk : Int) ≤ (n : Int) := by omega
                have z5 := HAD.out
                exact Reg.Gives.value (v := .slice (some AD) (n - kk) (ac - kk)) (w' := wi) (by go_simp) ⟨fun x h => Option.some.inj h, hI⟩
              · have e97 : ρ (.tmp 97) = V 14 := hd 14 97; have e103 : ρ (.tmp 103) = .slice (some AD) (n - kk) (ac - kk) := (hd 20 103).trans (hk 20 _ rfl); have hD1 : D 1 = true := hT 3 1; have hD8 : D 8 = true := hT 2 8; have hD13 : D 13 = true := hT 2 13; have hD14 : D 14 = true := hT 1 14; have hD21 : D 21 = false := hDi; have hD24 : D 24 = false := hF 1 24; clear hT hF; have h1 := hI.1 hD24
                rw [hD1, hD8, hD13, hD14, hD21] at h1
                simp only [cond_false, cond_true] at h1
                obtain ⟨A2, n2, c2, w2, hrun, hn⟩ := ApG.app el_rd fit_dh h1 (m := (L.drop kk)) (HDS.out wi h1.low) (fun e => by cases e) (by have := HLN.out; simp <;> omega)
                rw [HI.out.2.2.2.2] at hrun
                exact Reg.Gives.value (v := .slice A2 n2 c2) (w' := w2) (Reg.exec_append rfl e97 e103 hrun) ⟨fun x h => (by cases h), by show (D 24 = false → ApG 53 5 Dh.vals we (D 1) (cond (true) ((.slice A2 n2 c2)) (cond (D 14) (V 14) (cond (D 8) (V 8) (V 1)))) (cond (true) ((L.take kk) ++ [p] ++ (L.drop kk)) (cond (D 14) ((L.take kk) ++ [p]) (cond (D 8) (L.take kk) []))) (D 13) (V 13) p w2) ∧ (D 24 = true → LrStep B rb (some ⟨g, 0, none⟩) we { cells := R.cells, l := ((L.take kk) ++ [p] ++ (L.drop kk)) } w2); rw [hD1, hD8, hD13, hD14, hD24]; simp only [cond_true]; exact ⟨fun _ => hn, fun e => by cases e⟩⟩
              · have e83 : ρ (.tmp 83) = .pointer (some ⟨rb, 0, none⟩) := (hd 0 83).trans (hk 0 _ rfl); clear hT hF hk
                exact Reg.Gives.value (v := .pointer (some ⟨rb, 0, none⟩)) (w' := wi) (by go_simp) ⟨fun x h => Option.some.inj h, hI⟩
              · have e105 : ρ (.tmp 105) = .pointer (some ⟨rb, 0, none⟩) := (hd 22 105).trans (hk 22 _ rfl); clear hT hF hk
                exact Reg.Gives.value (v := .pointer (some ⟨rb, 1, none⟩)) (w' := wi) (by go_simp) ⟨fun x h => Option.some.inj h, hI⟩
              · have e106 : ρ (.tmp 106) = .pointer (some ⟨rb, 1, none⟩) := (hd 23 106).trans (hk 23 _ rfl); have e104 : ρ (.tmp 104) = V 21 := hd 21 104; have hD1 : D 1 = true := hT 1 1; have hD8 : D 8 = true := hT 1 8; have hD13 : D 13 = true := hT 1 13; have hD14 : D 14 = true := hT 1 14; have hD21 : D 21 = true := hT 1 21; have hD24 : D 24 = false := hDi; clear hT hF; have h1 := hI.1 hD24
                rw [hD1, hD8, hD13, hD14, hD21] at h1
                simp only [cond_true] at h1
                have hac := h1.acc rfl; have hrl := HR.out.later h1.low; have x0 := hrl.cel.cell (j := 1) rfl
                have x1 := hrl.cel.frozen (j := 1) (by simp)
                have hfin := HR.out.newL HBW.out h1.low hac (by exact HFL.out)
                obtain ⟨A2, c2, hv2⟩ := row_slice hac; obtain ⟨n3, hn3⟩ : ∃ n3, List.length ((L.take kk) ++ [p] ++ (L.drop kk)) = n3 := ⟨_, rfl⟩
                rw [hn3] at hv2
                rw [hv2] at hfin
                have e9 := e104
                rw [hv2] at e9
                clear e104
                exact Reg.Gives.skip (w' := wi.setCell ⟨rb, 1, none⟩ (.slice A2 n3 c2)) (by go_simp) ⟨fun x h => (by cases h), by show (true = false → ApG 53 5 Dh.vals we (D 1) (cond (D 21) (V 21) (cond (D 14) (V 14) (cond (D 8) (V 8) (V 1)))) (cond (D 21) ((L.take kk) ++ [p] ++ (L.drop kk)) (cond (D 14) ((L.take kk) ++ [p]) (cond (D 8) (L.take kk) []))) (D 13) (V 13) p (wi.setCell ⟨rb, 1, none⟩ (.slice A2 n3 c2))) ∧ (true = true → LrStep B rb (some ⟨g, 0, none⟩) we { cells := R.cells, l := ((L.take kk) ++ [p] ++ (L.drop kk)) } (wi.setCell ⟨rb, 1, none⟩ (.slice A2 n3 c2))); exact ⟨fun e => (by cases e), fun _ => hfin⟩⟩
            · intro V wf hk hI
              simp only [Reg.putsO, List.foldl_cons, List.foldl_nil, Act.put, List.setIfInBounds_toArray, List.set_cons_succ, List.set_cons_zero]
              replace hI : ((fun _ => true) 24 = false → ApG 53 5 Dh.vals we true (cond true (V 21) (cond true (V 14) (cond true (V 8) (V 1)))) (cond true ((L.take kk) ++ [p] ++ (L.drop kk)) (cond true ((L.take kk) ++ [p]) (cond true (L.take kk) []))) true (V 13) p wf) ∧ ((fun _ => true) 24 = true → LrStep B rb (some ⟨g, 0, none⟩) we { cells := R.cells, l := ((L.take kk) ++ [p] ++ (L.drop kk)) } wf) := hI
              clear hk
              have HS := Lib.hid (hI.2 rfl)
              clear hI
              go_wp2_with fail
              go_returns
              exact ⟨rfl, by rw [HSET2.out]; exact LxStep.before (HB.out.trans (HBE.out.mono HB.out.size)) HS.out⟩
          · have hkn2 : ¬ ((kk : Int) < (n : Int)) := by omega
            go_upto_region 15 with (fail)
            refine Reg.region_inv (by kernel_rfl) (fun i => ([some (.pointer (some ⟨rb, 0, none⟩)), none, some (.pointer (some ⟨rb, 0, none⟩)), some (.pointer (some ⟨rb, 0, none⟩)), some (.pointer (some ⟨rb, 1, none⟩)), some (.slice (some ⟨g, 0, none⟩) n ac), some (.int .i64 (kk : Int)), some (.slice (some ⟨g, 0, none⟩) kk ac), none, some (.int .i64 (cc : Int)), some (.agg #[.int .i64 who.node, .int .i64 who.epoch, .int .i64 who.seq]), some (.int .i64 u), some (.agg #[.int .i64 (cc : Int), .int .i64 who.node, .int .i64 who.epoch, .int .i64 who.seq, .int .i64 u]), none, none, some (.pointer (some ⟨rb, 0, none⟩)), some (.pointer (some ⟨rb, 0, none⟩)), some (.pointer (some ⟨rb, 1, none⟩)), some (.slice (some ⟨g, 0, none⟩) n ac), some (.int .i64 (kk : Int)), some (.slice (some AD) (n - kk) (ac - kk)), none, some (.pointer (some ⟨rb, 0, none⟩)), some (.pointer (some ⟨rb, 1, none⟩)), none] : List (Option Value)).getD i none) (fun D V W => (D 24 = false → ApG 53 5 Dh.vals we (D 1) (cond (D 21) (V 21) (cond (D 14) (V 14) (cond (D 8) (V 8) (V 1)))) (cond (D 21) ((L.take kk) ++ [p] ++ (L.drop kk)) (cond (D 14) ((L.take kk) ++ [p]) (cond (D 8) (L.take kk) []))) (D 13) (V 13) p W) ∧ (D 24 = true → LrStep B rb (some ⟨g, 0, none⟩) we { cells := R.cells, l := ((L.take kk) ++ [p] ++ (L.drop kk)) } W)) (fun V => [(some 83, V 0), (some 84, V 1), (some 85, V 2), (some 86, V 3), (some 87, V 4), (some 88, V 5), (some 89, V 6), (some 90, V 7), (some 91, V 8), (some 92, V 9), (some 93, V 10), (some 94, V 11), (some 95, V 12), (some 96, V 13), (some 97, V 14), (some 98, V 15), (some 99, V 16), (some 100, V 17), (some 101, V 18), (some 102, V 19), (some 103, V 20), (some 104, V 21), (some 105, V 22), (some 106, V 23), (none, V 24)]) (by kernel_rfl) (by kernel_rfl) (fun V => rfl) ?_ ?_ ?_
            · intro V
              exact ⟨fun _ => ApG.start (Below.refl _ _).drew _ _ _ _, fun e => (by cases e)⟩
            · intro i o ho
              have hi : i < 25 := (Array.getElem?_eq_some_iff.1 ho).1
              rcases i with _ | _ | _ | _ | _ | _ | _ | _ | _ | _ | _ | _ | _ | _ | _ | _ | _ | _ | _ | _ | _ | _ | _ | _ | _ | i
              rotate_right
              · omega
              all_goals obtain rfl := Option.some.inj ho
              all_goals intro D V ρ wi hE hI hDi hT hF hs hd hk
              · have e0 : ρ (.tmp 0) = .pointer (some ⟨rb, 0, none⟩) := hs 0; clear hT hF hk
                exact Reg.Gives.value (v := .pointer (some ⟨rb, 0, none⟩)) (w' := wi) (by go_simp) ⟨fun x h => Option.some.inj h, hI⟩
              · have hD1 : D 1 = false := hDi; have hD8 : D 8 = false := hF 1 8; have hD14 : D 14 = false := hF 2 14; have hD21 : D 21 = false := hF 3 21; have hD24 : D 24 = false := hF 1 24; clear hT hF; have h1 := hI.1 hD24
                rw [hD1, hD8, hD14, hD21] at h1
                simp only [cond_false] at h1
                exact Reg.Gives.value (v := .slice (some ⟨wi.heap.size, 0, none⟩) 0 0) (w' := wi.alloc (.cells #[] 53)) (by go_simp) ⟨fun x h => (by cases h), by show (D 24 = false → ApG 53 5 Dh.vals we (true) (cond (D 21) (V 21) (cond (D 14) (V 14) (cond (D 8) (V 8) ((.slice (some ⟨wi.heap.size, 0, none⟩) 0 0))))) (cond (D 21) ((L.take kk) ++ [p] ++ (L.drop kk)) (cond (D 14) ((L.take kk) ++ [p]) (cond (D 8) (L.take kk) []))) (D 13) (V 13) p (wi.alloc (.cells #[] 53))) ∧ (D 24 = true → LrStep B rb (some ⟨g, 0, none⟩) we { cells := R.cells, l := ((L.take kk) ++ [p] ++ (L.drop kk)) } (wi.alloc (.cells #[] 53))); rw [hD8, hD14, hD21, hD24]; simp only [cond_false]; exact ⟨fun _ => h1.mkz, fun e => by cases e⟩⟩
              · have e0 : ρ (.tmp 0) = .pointer (some ⟨rb, 0, none⟩) := hs 0; clear hT hF hk
                exact Reg.Gives.value (v := .pointer (some ⟨rb, 0, none⟩)) (w' := wi) (by go_simp) ⟨fun x h => Option.some.inj h, hI⟩
              · have e85 : ρ (.tmp 85) = .pointer (some ⟨rb, 0, none⟩) := (hd 2 85).trans (hk 2 _ rfl); clear hT hF hk
                exact Reg.Gives.value (v := .pointer (some ⟨rb, 0, none⟩)) (w' := wi) (by go_simp) ⟨fun x h => Option.some.inj h, hI⟩
              · have e86 : ρ (.tmp 86) = .pointer (some ⟨rb, 0, none⟩) := (hd 3 86).trans (hk 3 _ rfl); clear hT hF hk
                exact Reg.Gives.value (v := .pointer (some ⟨rb, 1, none⟩)) (w' := wi) (by go_simp) ⟨fun x h => Option.some.inj h, hI⟩
              · have e87 : ρ (.tmp 87) = .pointer (some ⟨rb, 1, none⟩) := (hd 4 87).trans (hk 4 _ rfl); have hD24 : D 24 = false := hF 1 24; clear hT hF; have hL : Below we.heap.size we wi := (hI.1 hD24).low; have x0 := (HR.out.later hL).cel.cell (j := 1) rfl
                rw [HN.out] at x0
                exact Reg.Gives.value (v := .slice (some ⟨g, 0, none⟩) n ac) (w' := wi) (by go_simp) ⟨fun x h => Option.some.inj h, hI⟩
              · have e12 : ρ (.tmp 12) = .int .i64 (kk : Int) := hs 12; clear hT hF hk
                exact Reg.Gives.value (v := .int .i64 (kk : Int)) (w' := wi) (by go_simp) ⟨fun x h => Option.some.inj h, hI⟩
              · have e88 : ρ (.tmp 88) = .slice (some ⟨g, 0, none⟩) n ac := (hd 5 88).trans (hk 5 _ rfl); have e89 : ρ (.tmp 89) = .int .i64 (kk : Int) := (hd 6 89).trans (hk 6 _ rfl); have hD24 : D 24 = false := hF 1 24; clear hT hF; have hL : Below we.heap.size we wi := (hI.1 hD24).low; have z0 := HI.out.1
                have z1 : kk ≤ ac := by have := HI.out; omega
                have z2 : kk ≤ n := by have := HI.out; omega
                have z3 : (kk : Int) ≤ (ac : Int) := by omega
                exact Reg.Gives.value (v := .slice (some ⟨g, 0, none⟩) kk ac) (w' := wi) (by go_simp) ⟨fun x h => Option.some.inj h, hI⟩
              · have e84 : ρ (.tmp 84) = V 1 := hd 1 84; have e90 : ρ (.tmp 90) = .slice (some ⟨g, 0, none⟩) kk ac := (hd 7 90).trans (hk 7 _ rfl); have hD1 : D 1 = true := hT 1 1; have hD8 : D 8 = false := hDi; have hD14 : D 14 = false := hF 1 14; have hD21 : D 21 = false := hF 2 21; have hD24 : D 24 = false := hF 1 24; clear hT hF; have h1 := hI.1 hD24
                rw [hD1, hD8, hD14, hD21] at h1
                simp only [cond_false] at h1
                obtain ⟨A2, n2, c2, w2, hrun, hn⟩ := ApG.app el_rd fit_dh h1 (m := (L.take kk)) (HTS.out wi h1.low) (fun e => by cases e) (by have := HLN.out; simp <;> omega)
                rw [HI.out.2.2.2.1] at hrun
                exact Reg.Gives.value (v := .slice A2 n2 c2) (w' := w2) (Reg.exec_append rfl e84 e90 hrun) ⟨fun x h => (by cases h), by show (D 24 = false → ApG 53 5 Dh.vals we (D 1) (cond (D 21) (V 21) (cond (D 14) (V 14) (cond (true) ((.slice A2 n2 c2)) (V 1)))) (cond (D 21) ((L.take kk) ++ [p] ++ (L.drop kk)) (cond (D 14) ((L.take kk) ++ [p]) (cond (true) (L.take kk) []))) (D 13) (V 13) p w2) ∧ (D 24 = true → LrStep B rb (some ⟨g, 0, none⟩) we { cells := R.cells, l := ((L.take kk) ++ [p] ++ (L.drop kk)) } w2); rw [hD1, hD14, hD21, hD24]; simp only [cond_false, cond_true]; exact ⟨fun _ => hn, fun e => by cases e⟩⟩
              · have e3 : ρ (.tmp 3) = .int .i64 (cc : Int) := hs 3; clear hT hF hk
                exact Reg.Gives.value (v := .int .i64 (cc : Int)) (w' := wi) (by go_simp) ⟨fun x h => Option.some.inj h, hI⟩
              · have e6 : ρ (.tmp 6) = .pointer (some ⟨xb, 0, none⟩) := hs 6; have hD24 : D 24 = false := hF 1 24; clear hT hF; have hL : Below we.heap.size we wi := (hI.1 hD24).low; have hq := HXB.out wi hL; have q0 := hq.cell (j := 0) rfl; have q1 := hq.cell (j := 1) rfl; have q2 := hq.cell (j := 2) rfl
                exact Reg.Gives.value (v := .agg #[.int .i64 who.node, .int .i64 who.epoch, .int .i64 who.seq]) (w' := wi) (by go_simp) ⟨fun x h => Option.some.inj h, hI⟩
              · have e2 : ρ (.tmp 2) = .int .i64 u := hs 2; clear hT hF hk
                exact Reg.Gives.value (v := .int .i64 u) (w' := wi) (by go_simp) ⟨fun x h => Option.some.inj h, hI⟩
              · have e92 : ρ (.tmp 92) = .int .i64 (cc : Int) := (hd 9 92).trans (hk 9 _ rfl); have e93 : ρ (.tmp 93) = .agg #[.int .i64 who.node, .int .i64 who.epoch, .int .i64 who.seq] := (hd 10 93).trans (hk 10 _ rfl); have e94 : ρ (.tmp 94) = .int .i64 u := (hd 11 94).trans (hk 11 _ rfl); clear hT hF hk
                exact Reg.Gives.value (v := .agg #[.int .i64 (cc : Int), .int .i64 who.node, .int .i64 who.epoch, .int .i64 who.seq, .int .i64 u]) (w' := wi) (by go_simp) ⟨fun x h => Option.some.inj h, hI⟩
              · have e95 : ρ (.tmp 95) = .agg #[.int .i64 (cc : Int), .int .i64 who.node, .int .i64 who.epoch, .int .i64 who.seq, .int .i64 u] := (hd 12 95).trans (hk 12 _ rfl); have hD13 : D 13 = false := hDi; have hD24 : D 24 = false := hF 1 24; clear hT hF; have h1 := hI.1 hD24
                rw [hD13] at h1
                have hk := h1.mkx #[.int .i64 (cc : Int), .int .i64 who.node, .int .i64 who.epoch, .int .i64 who.seq, .int .i64 u] HDH.out
                exact Reg.Gives.value (v := .slice (some ⟨wi.heap.size, 0, none⟩) 1 1) (w' := wi.alloc (.cells #[.int .i64 (cc : Int), .int .i64 who.node, .int .i64 who.epoch, .int .i64 who.seq, .int .i64 u] 53)) (by go_simp) ⟨fun x h => (by cases h), by show (D 24 = false → ApG 53 5 Dh.vals we (D 1) (cond (D 21) (V 21) (cond (D 14) (V 14) (cond (D 8) (V 8) (V 1)))) (cond (D 21) ((L.take kk) ++ [p] ++ (L.drop kk)) (cond (D 14) ((L.take kk) ++ [p]) (cond (D 8) (L.take kk) []))) (true) ((.slice (some ⟨wi.heap.size, 0, none⟩) 1 1)) p (wi.alloc (.cells #[.int .i64 (cc : Int), .int .i64 who.node, .int .i64 who.epoch, .int .i64 who.seq, .int .i64 u] 53))) ∧ (D 24 = true → LrStep B rb (some ⟨g, 0, none⟩) we { cells := R.cells, l := ((L.take kk) ++ [p] ++ (L.drop kk)) } (wi.alloc (.cells #[.int .i64 (cc : Int), .int .i64 who.node, .int .i64 who.epoch, .int .i64 who.seq, .int .i64 u] 53))); rw [hD24]; exact ⟨fun _ => hk, fun e => by cases e⟩⟩
              · have e91 : ρ (.tmp 91) = V 8 := hd 8 91; have e96 : ρ (.tmp 96) = V 13 := hd 13 96; have hD1 : D 1 = true := hT 2 1; have hD8 : D 8 = true := hT 1 8; have hD13 : D 13 = true := hT 1 13; have hD14 : D 14 = false := hDi; have hD21 : D 21 = false := hF 1 21; have hD24 : D 24 = false := hF 1 24; clear hT hF; have h1 := hI.1 hD24
                rw [hD1, hD8, hD13, hD14, hD21] at h1
                simp only [cond_false, cond_true] at h1
                obtain ⟨g2, A2, n2, c2, w2, hv2, hrun, hn⟩ := ApG.one el_rd fit_dh h1 (by have := HLN.out; simp <;> omega)
                have e97 := e96
                rw [hv2] at e97
                exact Reg.Gives.value (v := .slice A2 n2 c2) (w' := w2) (Reg.exec_append rfl e91 e97 hrun) ⟨fun x h => (by cases h), by show (D 24 = false → ApG 53 5 Dh.vals we (D 1) (cond (D 21) (V 21) (cond (true) ((.slice A2 n2 c2)) (cond (D 8) (V 8) (V 1)))) (cond (D 21) ((L.take kk) ++ [p] ++ (L.drop kk)) (cond (true) ((L.take kk) ++ [p]) (cond (D 8) (L.take kk) []))) (D 13) (V 13) p w2) ∧ (D 24 = true → LrStep B rb (some ⟨g, 0, none⟩) we { cells := R.cells, l := ((L.take kk) ++ [p] ++ (L.drop kk)) } w2); rw [hD1, hD8, hD13, hD21, hD24]; simp only [cond_false, cond_true]; exact ⟨fun _ => hn, fun e => by cases e⟩⟩
              · have e0 : ρ (.tmp 0) = .pointer (some ⟨rb, 0, none⟩) := hs 0; clear hT hF hk
                exact Reg.Gives.value (v := .pointer (some ⟨rb, 0, none⟩)) (w' := wi) (by go_simp) ⟨fun x h => Option.some.inj h, hI⟩
              · have e98 : ρ (.tmp 98) = .pointer (some ⟨rb, 0, none⟩) := (hd 15 98).trans (hk 15 _ rfl); clear hT hF hk
                exact Reg.Gives.value (v := .pointer (some ⟨rb, 0, none⟩)) (w' := wi) (by go_simp) ⟨fun x h => Option.some.inj h, hI⟩
              · have e99 : ρ (.tmp 99) = .pointer (some ⟨rb, 0, none⟩) := (hd 16 99).trans (hk 16 _ rfl); clear hT hF hk
                exact Reg.Gives.value (v := .pointer (some ⟨rb, 1, none⟩)) (w' := wi) (by go_simp) ⟨fun x h => Option.some.inj h, hI⟩
              · have e100 : ρ (.tmp 100) = .pointer (some ⟨rb, 1, none⟩) := (hd 17 100).trans (hk 17 _ rfl); have hD24 : D 24 = false := hF 1 24; clear hT hF; have hL : Below we.heap.size we wi := (hI.1 hD24).low; have x0 := (HR.out.later hL).cel.cell (j := 1) rfl
                rw [HN.out] at x0
                exact Reg.Gives.value (v := .slice (some ⟨g, 0, none⟩) n ac) (w' := wi) (by go_simp) ⟨fun x h => Option.some.inj h, hI⟩
              · have e12 : ρ (.tmp 12) = .int .i64 (kk : Int) := hs 12; clear hT hF hk
                exact Reg.Gives.value (v := .int .i64 (kk : Int)) (w' := wi) (by go_simp) ⟨fun x h => Option.some.inj h, hI⟩
              · have e101 : ρ (.tmp 101) = .slice (some ⟨g, 0, none⟩) n ac := (hd 18 101).trans (hk 18 _ rfl); have e102 : ρ (.tmp 102) = .int .i64 (kk : Int) := (hd 19 102).trans (hk 19 _ rfl); have hD24 : D 24 = false := hF 1 24; clear hT hF; have hL : Below we.heap.size we wi := (hI.1 hD24).low
                have z1 : kk ≤ n := by have := HI.out; omega
                have z2 : kk ≤ ac := by have := HI.out; omega
                have z3 : (0 : Int) ≤ (kk : Int) := by omega
                have z4 : (kk : Int) ≤ (n : Int) := by omega
                have z5 := HAD.out
                exact Reg.Gives.value (v := .slice (some AD) (n - kk) (ac - kk)) (w' := wi) (by go_simp) ⟨fun x h => Option.some.inj h, hI⟩
              · have e97 : ρ (.tmp 97) = V 14 := hd 14 97; have e103 : ρ (.tmp 103) = .slice (some AD) (n - kk) (ac - kk) := (hd 20 103).trans (hk 20 _ rfl); have hD1 : D 1 = true := hT 3 1; have hD8 : D 8 = true := hT 2 8; have hD13 : D 13 = true := hT 2 13; have hD14 : D 14 = true := hT 1 14; have hD21 : D 21 = false := hDi; have hD24 : D 24 = false := hF 1 24; clear hT hF; have h1 := hI.1 hD24
                rw [hD1, hD8, hD13, hD14, hD21] at h1
                simp only [cond_false, cond_true] at h1
                obtain ⟨A2, n2, c2, w2, hrun, hn⟩ := ApG.app el_rd fit_dh h1 (m := (L.drop kk)) (HDS.out wi h1.low) (fun e => by cases e) (by have := HLN.out; simp <;> omega)
                rw [HI.out.2.2.2.2] at hrun
                exact Reg.Gives.value (v := .slice A2 n2 c2) (w' := w2) (Reg.exec_append rfl e97 e103 hrun) ⟨fun x h => (by cases h), by show (D 24 = false → ApG 53 5 Dh.vals we (D 1) (cond (true) ((.slice A2 n2 c2)) (cond (D 14) (V 14) (cond (D 8) (V 8) (V 1)))) (cond (true) ((L.take kk) ++ [p] ++ (L.drop kk)) (cond (D 14) ((L.take kk) ++ [p]) (cond (D 8) (L.take kk) []))) (D 13) (V 13) p w2) ∧ (D 24 = true → LrStep B rb (some ⟨g, 0, none⟩) we { cells := R.cells, l := ((L.take kk) ++ [p] ++ (L.drop kk)) } w2); rw [hD1, hD8, hD13, hD14, hD24]; simp only [cond_true]; exact ⟨fun _ => hn, fun e => by cases e⟩⟩
              · have e83 : ρ (.tmp 83) = .pointer (some ⟨rb, 0, none⟩) := (hd 0 83).trans (hk 0 _ rfl); clear hT hF hk
                exact Reg.Gives.value (v := .pointer (some ⟨rb, 0, none⟩)) (w' := wi) (by go_simp) ⟨fun x h => Option.some.inj h, hI⟩
              · have e105 : ρ (.tmp 105) = .pointer (some ⟨rb, 0, none⟩) := (hd 22 105).trans (hk 22 _ rfl); clear hT hF hk
                exact Reg.Gives.value (v := .pointer (some ⟨rb, 1, none⟩)) (w' := wi) (by go_simp) ⟨fun x h => Option.some.inj h, hI⟩
              · have e106 : ρ (.tmp 106) = .pointer (some ⟨rb, 1, none⟩) := (hd 23 106).trans (hk 23 _ rfl); have e104 : ρ (.tmp 104) = V 21 := hd 21 104; have hD1 : D 1 = true := hT 1 1; have hD8 : D 8 = true := hT 1 8; have hD13 : D 13 = true := hT 1 13; have hD14 : D 14 = true := hT 1 14; have hD21 : D 21 = true := hT 1 21; have hD24 : D 24 = false := hDi; clear hT hF; have h1 := hI.1 hD24
                rw [hD1, hD8, hD13, hD14, hD21] at h1
                simp only [cond_true] at h1
                have hac := h1.acc rfl; have hrl := HR.out.later h1.low; have x0 := hrl.cel.cell (j := 1) rfl
                have x1 := hrl.cel.frozen (j := 1) (by simp)
                have hfin := HR.out.newL HBW.out h1.low hac (by exact HFL.out)
                obtain ⟨A2, c2, hv2⟩ := row_slice hac; obtain ⟨n3, hn3⟩ : ∃ n3, List.length ((L.take kk) ++ [p] ++ (L.drop kk)) = n3 := ⟨_, rfl⟩
                rw [hn3] at hv2
                rw [hv2] at hfin
                have e9 := e104
                rw [hv2] at e9
                clear e104
                exact Reg.Gives.skip (w' := wi.setCell ⟨rb, 1, none⟩ (.slice A2 n3 c2)) (by go_simp) ⟨fun x h => (by cases h), by show (true = false → ApG 53 5 Dh.vals we (D 1) (cond (D 21) (V 21) (cond (D 14) (V 14) (cond (D 8) (V 8) (V 1)))) (cond (D 21) ((L.take kk) ++ [p] ++ (L.drop kk)) (cond (D 14) ((L.take kk) ++ [p]) (cond (D 8) (L.take kk) []))) (D 13) (V 13) p (wi.setCell ⟨rb, 1, none⟩ (.slice A2 n3 c2))) ∧ (true = true → LrStep B rb (some ⟨g, 0, none⟩) we { cells := R.cells, l := ((L.take kk) ++ [p] ++ (L.drop kk)) } (wi.setCell ⟨rb, 1, none⟩ (.slice A2 n3 c2))); exact ⟨fun e => (by cases e), fun _ => hfin⟩⟩
            · intro V wf hk hI
              simp only [Reg.putsO, List.foldl_cons, List.foldl_nil, Act.put, List.setIfInBounds_toArray, List.set_cons_succ, List.set_cons_zero]
              replace hI : ((fun _ => true) 24 = false → ApG 53 5 Dh.vals we true (cond true (V 21) (cond true (V 14) (cond true (V 8) (V 1)))) (cond true ((L.take kk) ++ [p] ++ (L.drop kk)) (cond true ((L.take kk) ++ [p]) (cond true (L.take kk) []))) true (V 13) p wf) ∧ ((fun _ => true) 24 = true → LrStep B rb (some ⟨g, 0, none⟩) we { cells := R.cells, l := ((L.take kk) ++ [p] ++ (L.drop kk)) } wf) := hI
              clear hk
              have HS := Lib.hid (hI.2 rfl)
              clear hI
              go_wp2_with fail
              go_returns
              exact ⟨rfl, by rw [HSET2.out]; exact LxStep.before (HB.out.trans (HBE.out.mono HB.out.size)) HS.out⟩
  · have h1 : atD (cc : Int) (docR T).l 0 = (k : Int) := h1
    rw [h1] at HC
    obtain ⟨g, rfl, hrg, hac⟩ := hra.at (k := k) hk
    have hg : (docR T).l[k]'hk = ⟨(cc : Int), (ofT T (cc : Int)).tid, (ofT T (cc : Int)).til⟩ := h3
    rw [hg] at hrg
    have h5 := h4 (holdS who u (ofT T (cc : Int))) rfl
    have hset : docF 0 (set1 who u T (cc : Int)) = (docF 0 T).set k ⟨(cc : Int), who, max u (ofT T (cc : Int)).til⟩ := by
      unfold set1
      rw [h5]
      unfold holdS
      rw [h2, if_pos rfl]
    have htid : (ofT T (cc : Int)).tid = who := by
      unfold mayS at hmay
      rw [h2] at hmay
      cases hd : decide ((ofT T (cc : Int)).tid = who) with
      | true => exact of_decide_eq_true hd
      | false => rw [hd] at hmay; cases hmay
    have hq := lt_neq who who
    rw [decide_eq_true rfl] at hq
    obtain ⟨s, hs⟩ : ∃ s, ofT T (cc : Int) = s := ⟨_, rfl⟩
    rw [hs] at hrg hset htid hg
    have hkn : (k : Int) < (n : Int) := by rw [← hn]; exact Int.ofNat_lt.2 hk
    have hkn2 : k < n := by omega
    have hk0 : (0 : Int) ≤ (k : Int) := by omega
    have x1 := hrg 1 _ rfl
    have x2 := hrg 2 _ rfl
    have x3 := hrg 3 _ rfl
    have x4 := hrg 4 _ rfl
    dsimp only at x1 x2 x3 x4
    rw [htid] at x1 x2 x3
    have HST : Hid (∀ w1, Below wa.heap.size wa w1 → LrStep B rb (some ⟨g, 0, none⟩) wa ⟨(T.length : Int), (docF 0 T).set k ⟨(cc : Int), who, u⟩⟩ (w1.setCell ⟨g, k * 5 + 4, none⟩ (.int .i64 u))) := Lib.hid fun w1 hb => by
      have h6 := hra.til hb hk u
      rw [hg] at h6
      dsimp only at h6
      rw [htid] at h6
      exact h6
    have HSE : Hid (docR (set1 who u T (cc : Int)) = ⟨(T.length : Int), (docF 0 T).set k ⟨(cc : Int), who, max u s.til⟩⟩) := Lib.hid (by unfold docR; rw [set1_len, hset])
    have HSM : Hid ((docF 0 T).set k ⟨(cc : Int), who, s.til⟩ = docF 0 T) := Lib.hid (by
      have e : (docF 0 T)[k]'hk = ⟨(cc : Int), who, s.til⟩ := by rw [h3, hs, htid]
      rw [← e]
      exact List.set_getElem_self _)
    have HRA := Lib.hid hra
    have f4 : wa.frozen? ⟨g, k * 5 + 4, none⟩ = false := by
      have h6 := OwnG.elem fit_dh hra.own (k := k) hk
      obtain ⟨g2, e6, hc6⟩ := h6
      simp only [Option.some.injEq, Addr.mk.injEq, and_true] at e6
      subst e6
      exact hc6.frozen (j := 4) (by simp [Dh.vals])
    clear h hba hca hra h1 h2 h3 h4 h5 hrg hac hg hset htid hs hm hn hdl hmay hk hok hB
    by_cases hlt : s.til < u
    · have e5 : decide (s.til < u) = true := decide_eq_true hlt
      have HMX : Hid (max u s.til = u) := Lib.hid (Int.max_eq_left (by omega))
      clear hlt
      go_enter Try.func16, Try.ntmps16
      go_upto_region 1 with (fail)
      rw [← hwa]
      clear hwa
      go_wp2_with fail
      refine HC.out.mono ?_
      rintro e w2 ⟨rfl, hw2⟩
      rw [hw2]
      clear hw2 HC
      go_wp2_with fail
      go_quiet (fail)
      go_wp2_with fail
      go_returns
      refine ⟨rfl, ?_⟩
      rw [HSE.out, HMX.out]
      exact LxStep.before HB.out (HST.out _ (below_dr _ _))
    · have e5 : decide (s.til < u) = false := decide_eq_false hlt
      have HMX : Hid (max u s.til = s.til) := Lib.hid (Int.max_eq_right (by omega))
      clear hlt
      go_enter Try.func16, Try.ntmps16
      go_upto_region 1 with (fail)
      rw [← hwa]
      clear hwa
      go_wp2_with fail
      refine HC.out.mono ?_
      rintro e w2 ⟨rfl, hw2⟩
      rw [hw2]
      clear hw2 HC
      go_wp2_with fail
      go_quiet (fail)
      go_wp2_with fail
      go_returns
      refine ⟨rfl, ?_⟩
      rw [HSE.out, HMX.out, HSM.out]
      exact LxStep.before HB.out (LxStep.same HRA.out (below_dr _ _))
end
end Go.Proofs.Ytiobblmagjbhjaa.Lea
