/-
  WheelOrder is proved: timers that are due at one time are told in the order in which they were set last. Conditions: none.
-/
import Derived.Test.YtnbdgjaekjneaaaWhlLaw
import Derived.Test.YtnbdgjaekjneaaaWhlOrd
import Derived.Test.YtnbdgjaekjneaaaU8s
namespace Go.Proofs.Ytnbdgjaekjneaaa.WheelOrder
set_option maxRecDepth 100000
open Go.ChangeShapes Go.WideShapes Go.ChangeAt Go.RowKit Go.Deep Go.Proofs.Ytnbdgjaekjneaaa.Mem Go.Proofs.Ytnbdgjaekjneaaa.Whl

def iv (x : Int) : List Value := [.int .i64 x]
theorem fit_iv (l : List Int) : Fit 1 (l.map iv) := ⟨fun v hv => by obtain ⟨x, _, rfl⟩ := List.mem_map.1 hv; rfl, fun v hv u hu => by
  obtain ⟨x, _, rfl⟩ := List.mem_map.1 hv
  unfold iv at hu
  simp only [List.mem_cons, List.not_mem_nil, or_false] at hu
  rcases hu with rfl
  rfl⟩
theorem el_int : Elem 59 3 (.int .i64 0) 1 8 := ⟨Try.underlying59, by kernel_rfl, rfl, by decide, by decide⟩
theorem key_neqc (p q : Ky) (w : World) : (binOp .neq 34 p.val q.val).run Try.prog w = .ok (.bool (!decide (p = q))) w := by
  have h := key_equal 34 (by kernel_rfl) (by kernel_rfl) ⟨_, _, _, _, rfl, rfl, rfl, rfl, rfl, rfl, rfl, rfl, rfl, by decide, by decide, by decide, by decide⟩ p q w
  show (binOp .neq 34 (.agg _) (.agg _)).run Try.prog w = _
  rw [run_neq_struct]
  unfold Ky.val at h
  rw [h]
  rfl
theorem WcStep.wide {B rb ac : Nat} {A : Option Addr} {w w' : World} {R R' : Wr} (h : WcStep B rb A w R' w') (hr : WcAt B w rb R A ac) (hB : B ≤ w.heap.size) : ∃ A' ac', WcAt B w' rb R' A' ac' ∧ Below B w w' := by
  have hb := WxStep.below h hr hB
  obtain ⟨A', ac', h1, _⟩ := h
  exact ⟨A', ac', h1, hb⟩
theorem only_wide {B rb ac : Nat} {A : Option Addr} {w w' : World} {R : Wr} (hr : WcAt B w rb R A ac) (ho : Only (wfoot rb A) w w') (hB : B ≤ w.heap.size) : Below B w w' := ho.below hB fun k e => by
  rcases e with e | e
  · rw [e]; exact hr.low
  · exact (hr.row.lt k (by rw [own_blk]; exact e.symm)).1
def whOrd35 (s vc cg gw gg ow og q : Nat) (p : Int) : Nat → Value → World → Prop
  | 0, v, _ => v = .int .i64 (q : Int)
  | 1, v, _ => v = .slice (some ⟨gg, og, none⟩) s cg
  | 2, v, _ => v = .int .i64 (s : Int)
  | 3, v, _ => v = .bool false
  | 4, v, _ => v = .bool false
  | 5, v, _ => v = .slice (some ⟨gg, og, none⟩) s cg
  | 6, v, _ => v = .int .i64 (q : Int)
  | 7, v, _ => v = .pointer (some ⟨gg, og + q * 6, none⟩)
  | 8, v, _ => v = .agg #[.int .i64 p, .int .i64 0, .int .i64 0, .int .i64 0, .int .i64 0, .int .i64 0]
  | 9, v, _ => v = .slice (some ⟨gw, ow, none⟩) s vc
  | 10, v, _ => v = .int .i64 (q : Int)
  | 11, v, _ => v = .pointer (some ⟨gw, ow + q, none⟩)
  | 12, v, _ => v = .int .i64 p
  | 13, v, _ => v = .agg #[.int .i64 p, .int .i64 0, .int .i64 0, .int .i64 0, .int .i64 0, .int .i64 0]
  | 14, v, _ => v = .bool false
  | 15, v, _ => v = .bool false
  | _, _, _ => True
set_option maxHeartbeats 4000000 in
theorem walk (A : Option Addr) (ks : List Int) (cap : Nat) (a8 : Int) (w : World) (h : U8s w A ks) (hk : ∀ k ∈ ks, 0 ≤ k ∧ k ≤ 255) (hcap : ks.length ≤ cap) (hA : A = none → cap = 0) (ha : 0 ≤ a8 ∧ a8 ≤ 255) (hl : ks.length ≤ 140737488351232) :
    Calls Try.prog 6 #[.slice A ks.length cap, .int .u8 a8] w fun e w' => e = .returned (.bool true) ∧ Below w.heap.size w w' := by
  have HC := Lib.hid (awake_any w)
  obtain ⟨n, hn⟩ : ∃ n, ks.length = n := ⟨_, rfl⟩
  have HLN := Lib.hid hn
  have HH := Lib.hid h
  have HK := Lib.hid hk
  have HCA := Lib.hid hA
  rw [hn] at hl hcap ⊢
  clear h hk hn hA
  by_cases hgt : 60 < n
  · have e1 : decide ((n : Int) > 60) = true := by simp; omega
    go_enter Try.func6, Try.ntmps6
    go_wp2_with fail
    refine HC.out.mono ?_
    rintro e w1 ⟨rfl, hb1⟩
    go_wp2_with fail
    go_returns
    exact ⟨rfl, hb1⟩
  · have e1 : decide ((n : Int) > 60) = false := by simp; omega
    go_enter Try.func6, Try.ntmps6
    go_wp2_with fail
    refine HC.out.mono ?_
    rintro e w1 ⟨rfl, hb1⟩
    have HB1 := Lib.hid hb1
    have HC := Lib.hid (New_any w1)
    clear hb1
    go_wp2_with fail
    refine HC.out.mono ?_
    rintro e w2 ⟨rfl, hw2, hb2⟩
    have HB2 := Lib.hid hb2
    have HW2 := Lib.hid hw2
    obtain ⟨rb, hrb⟩ : ∃ rb, w1.heap.size = rb := ⟨_, rfl⟩
    rw [hrb] at HW2 ⊢
    have HRB := Lib.hid hrb
    clear hw2 hb2 HC hrb
    obtain ⟨N, hN⟩ : ∃ N : Int, 1 + a8 % 50 = N := ⟨_, rfl⟩
    have hN1 : 1 ≤ N := by omega
    have hN2 : N ≤ 50 := by omega
    have f1 : IntKind.i64.wrap a8 = a8 := by rw [IntKind.wrap_i64]; omega
    have f2 : Int.tmod a8 50 = a8 % 50 := by rw [Int.tmod_eq_emod_of_nonneg ha.1]
    have f3 : IntKind.i64.wrap (1 + a8 % 50) = N := by rw [hN, IntKind.wrap_i64]; omega
    have f4 : IntKind.i64.wrap (a8 % 50) = a8 % 50 := by rw [IntKind.wrap_i64]; omega
    clear hN
    go_upto_region 7 with (fail)
    clear f1 f2 f3 f4
    go_wp2_with fail
    go_loopw [7, 8, 30] (fun _ _ i wr => ∃ (k : Nat) (A1 : Option Addr) (c1 : Nat), k ≤ n ∧ i = .int .i64 (k : Int) ∧ Hid (WcAt w1.heap.size wr rb ⟨0, ordL (ks.take k) N⟩ A1 c1) ∧ Hid (Below w1.heap.size w1 wr)) (fun _ _ i _ => n - (intOf i).toNat)
    case atStart => exact ⟨0, none, 0, Nat.zero_le _, rfl, by rw [HRB.out] at *; exact HW2, HB2⟩
    case round =>
      obtain ⟨k, A1, c1, hkn, rfl, HW, HB⟩ := hrel
      by_cases hlt : k < n
      · have hkl : k < ks.length := by rw [HLN.out]; exact hlt
        obtain ⟨b, off, rfl, x0⟩ := ((HH.out.later HB1.out).later HB.out) k hkl
        obtain ⟨p, hp⟩ : ∃ p, ks[k] = p := ⟨_, rfl⟩
        rw [hp] at x0
        have hpk := HK.out p (by rw [← hp]; exact List.getElem_mem hkl)
        have hw0 : IntKind.i64.wrap p = p := by rw [IntKind.wrap_i64]; omega
        have HT : Hid (ks.take (k + 1) = ks.take k ++ [p]) := Lib.hid (by rw [List.take_succ_eq_append_getElem hkl, hp])
        have HTL : Hid ((ks.take k).length = k) := Lib.hid (by rw [List.length_take]; omega)
        have HK1 : Hid (∀ x ∈ ks.take k, x ≤ 255) := Lib.hid fun x hx => (HK.out x (List.mem_of_mem_take hx)).2
        have HS1 : Hid (Calls Try.prog 10 #[.pointer (some ⟨rb, 0, none⟩), .agg #[.int .i64 p, .int .i64 0, .int .i64 0, .int .i64 0, .int .i64 0, .int .i64 0], .int .i64 N] wr fun e w' => e = .returned (.int .i64 0) ∧ WcStep w1.heap.size rb A1 wr ⟨0, ordA (ks.take k ++ [p]) N ++ ordB k N⟩ w') := Lib.hid (by
          have h1 := SetC_any HW.out (kk p) N HB.out.size ord_asc (Int.le_refl _) (by show (0 : Int) ≤ 1000000000000000; decide)
          rw [ord_set1 HK1.out hpk.2 (by rw [HTL.out]; omega) hN1 hN2, HTL.out] at h1
          exact h1)
        clear hp hkl
        go_wp2_with fail
        refine HS1.out.mono ?_
        rintro e wa ⟨rfl, hst⟩
        obtain ⟨A2, c2, hw2, hb2⟩ := WcStep.wide hst HW.out HB.out.size
        have HW2 := Lib.hid hw2
        have HB2 := Lib.hid (HB.out.trans hb2)
        have HS2 : Hid (Calls Try.prog 10 #[.pointer (some ⟨rb, 0, none⟩), .agg #[.int .i64 (1000 + (k : Int)), .int .i64 0, .int .i64 0, .int .i64 0, .int .i64 0, .int .i64 0], .int .i64 (N + 1 + (k : Int))] wa fun e w' => e = .returned (.int .i64 0) ∧ WcStep w1.heap.size rb A2 wa ⟨0, ordL (ks.take (k + 1)) N⟩ w') := Lib.hid (by
          have h1 := SetC_any HW2.out (kk (1000 + (k : Int))) (N + 1 + (k : Int)) HB2.out.size ord_asc (Int.le_refl _) (by show (0 : Int) ≤ 1000000000000000; decide)
          rw [ord_set2 (m := k) (fun x hx => by rcases List.mem_append.1 hx with hx | hx; exact HK1.out x hx; rw [List.mem_singleton.1 hx]; exact hpk.2) (by rw [List.length_append, HTL.out, List.length_singleton]; omega) (by omega) hN1 hN2] at h1
          have e : ordL (ks.take (k + 1)) N = ordA (ks.take k ++ [p]) N ++ ordB (k + 1) N := by
            unfold ordL
            rw [HT.out, List.length_append, HTL.out, List.length_singleton]
          rw [e]
          exact h1)
        have g1 : IntKind.i64.wrap (1000 + (k : Int)) = 1000 + (k : Int) := by rw [IntKind.wrap_i64]; omega
        have g2 : IntKind.i64.wrap (N + 1) = N + 1 := by rw [IntKind.wrap_i64]; omega
        have g3 : IntKind.i64.wrap (N + 1 + (k : Int)) = N + 1 + (k : Int) := by rw [IntKind.wrap_i64]; omega
        clear hst hw2 hb2 HS1 x0 hw0
        go_wp2_with fail
        refine HS2.out.mono ?_
        rintro e wb ⟨rfl, hst⟩
        obtain ⟨A3, c3, hw3, hb3⟩ := WcStep.wide hst HW2.out HB2.out.size
        have HW3 := Lib.hid hw3
        have HB3 := Lib.hid (HB2.out.trans hb3)
        clear hst hw3 hb3 HS2 g1 g2 g3
        go_wp2_with fail
        go_roundw
        case rel => exact ⟨k + 1, A3, c3, by omega, by go_num, HW3, HB3⟩
        case measure => simp [intOf]; omega
      · obtain rfl : k = n := by omega
        have HWF : Hid (WcAt w1.heap.size wr rb ⟨0, ordA ks N ++ ordB k N⟩ A1 c1) := Lib.hid (by
          have h1 := HW.out
          rw [List.take_of_length_le (by rw [HLN.out]; exact Nat.le_refl _)] at h1
          unfold ordL at h1
          rw [HLN.out] at h1
          exact h1)
        clear HW
        have HKD : Hid ((ordB k N).length = k) := Lib.hid (by unfold ordB; simp)
        obtain ⟨wl, hwl⟩ : ∃ W, W = wr := ⟨_, rfl⟩
        subst hwl
        have HHL := Lib.hid ((HH.out.later HB1.out).later HB.out)
        have HBL := Lib.hid HB
        clear HH HB2
        go_wp2_with fail
        go_loopw [9, 10, 11, 12, 14, 57] (fun x _ _ _ _ i wq => ∃ (q : Nat) (acc : List Int) (V : Option Addr) (vn vc : Nat), q ≤ k ∧ i = .int .i64 (q : Int) ∧ x = .slice V vn vc ∧ acc.length ≤ q ∧ Hid (acc ++ wantL (ks.drop q) = wantL ks) ∧ Hid (OwnG 3 1 iv wl.heap.size wq (.slice V vn vc) acc) ∧ Hid (Below wl.heap.size wl wq)) (fun _ _ _ _ _ i _ => k - (intOf i).toNat)
        case atStart => exact ⟨0, [], none, 0, 0, Nat.zero_le _, rfl, rfl, Nat.zero_le _, Lib.hid rfl, Lib.hid (OwnG.nil _ _ _ _ _), Lib.hid (Below.refl _ _)⟩
        case round =>
          obtain ⟨k0, hk0⟩ : ∃ x, x = k := ⟨_, rfl⟩
          subst hk0
          clear HB
          obtain ⟨k, acc, V, vn, vc, hkn, rfl, rfl, hacl, HACC, HO, HB⟩ := hrel
          by_cases hlt : k < k0
          · have hkl : k < ks.length := by rw [HLN.out]; exact hlt
            obtain ⟨b, off, rfl, x0⟩ := (HHL.out.later HB.out) k hkl
            obtain ⟨p, hp⟩ : ∃ p, ks[k] = p := ⟨_, rfl⟩
            rw [hp] at x0
            have hpk := HK.out p (by rw [← hp]; exact List.getElem_mem hkl)
            have hw0 : IntKind.i64.wrap p = p := by rw [IntKind.wrap_i64]; omega
            have HDR : Hid (ks.drop k = p :: ks.drop (k + 1)) := Lib.hid (by rw [List.drop_eq_getElem_cons hkl, hp])
            obtain ⟨lat, hlat⟩ : ∃ x, decide (p ∈ ks.drop (k + 1)) = x := ⟨_, rfl⟩
            have HYES : Hid (lat = true → acc ++ wantL (ks.drop (k + 1)) = wantL ks) := Lib.hid (fun e => by
              rw [← HACC.out, HDR.out]
              show _ = acc ++ (if p ∈ ks.drop (k + 1) then _ else _)
              rw [if_pos (of_decide_eq_true (hlat.trans e))])
            have HNO : Hid (lat = false → acc ++ ([p] ++ wantL (ks.drop (k + 1))) = wantL ks) := Lib.hid (fun e => by
              rw [← HACC.out, HDR.out]
              show _ = acc ++ (if p ∈ ks.drop (k + 1) then _ else _)
              rw [if_neg (of_decide_eq_false (hlat.trans e))]
              rfl)
            have HLAT := Lib.hid hlat
            have g0 : IntKind.i64.wrap ((k : Int) + 1) = (k : Int) + 1 := by rw [IntKind.wrap_i64]; omega
            have g1 : (0 : Int) ≤ (k : Int) + 1 := by omega
            have g2 : (k : Int) + 1 ≤ (k0 : Int) := by omega
            have g3 : k + 1 ≤ cap := by omega
            have g4 : k + 1 ≤ k0 := by omega
            clear hp hkl hlat
            by_cases hlast : k + 1 = k0
            · have HLF : Hid (lat = false) := Lib.hid (by rw [← HLAT.out]; exact decide_eq_false (by rw [List.drop_of_length_le (by rw [HLN.out]; omega)]; simp))
              obtain rfl := HLF.out
              have h00 : k0 - (k + 1) = 0 := by omega
              have HLAST := Lib.hid hlast
              clear hlast
              by_cases hcc : cap = k + 1
              · have hcc3 : k + 1 = cap := hcc.symm
                clear hcc
                go_upto_region 19 with (fail)
                go_wp2_with fail
                go_loopw [12, 14, 67] (fun z _ j wq => j = .int .i64 0 ∧ z = .bool false ∧ wr = wq) (fun _ _ _ _ => 0)
                case atStart => exact ⟨rfl, rfl, rfl⟩
                case round =>
                  obtain ⟨rfl, rfl, rfl⟩ := hrel
                  obtain ⟨V', vn', vc', wu, hrun, hrow, hbu⟩ := OwnG.more el_int fit_iv HO.out p #[.int .i64 p] rfl HB.out.size (by omega)
                  have HRUN := Lib.hid hrun
                  have HROW := Lib.hid hrow
                  have HBU := Lib.hid (HB.out.trans hbu)
                  have HACC2 : Hid ((acc ++ [p]) ++ wantL (ks.drop (k + 1)) = wantL ks) := Lib.hid (by rw [List.append_assoc]; exact HNO.out (by trivial))
                  clear hrun hrow hbu x0 HNO HYES
                  go_wp2_with (at_builtin
                               refine Lib.wpList_append_run (wr.alloc (.cells #[.int .i64 p] 3)) rfl (.tmp 80) (.tmp 83) 59 59 rfl (.slice V vn vc) (.slice (some ⟨wr.heap.size, 0, none⟩) 1 1) rfl rfl _ _ HRUN.out ?_)
                  go_roundw
                  case rel => exact ⟨k + 1, acc ++ [p], V', vn', vc', by omega, by go_num, rfl, by simp; omega, HACC2, HROW, HBU⟩
                  case measure => simp [intOf]; omega
              · have hcc2 : ¬ cap = k + 1 := hcc
                go_upto_region 19 with (fail)
                go_wp2_with fail
                go_loopw [12, 14, 67] (fun z _ j wq => j = .int .i64 0 ∧ z = .bool false ∧ wr = wq) (fun _ _ _ _ => 0)
                case atStart => exact ⟨rfl, rfl, rfl⟩
                case round =>
                  obtain ⟨rfl, rfl, rfl⟩ := hrel
                  obtain ⟨V', vn', vc', wu, hrun, hrow, hbu⟩ := OwnG.more el_int fit_iv HO.out p #[.int .i64 p] rfl HB.out.size (by omega)
                  have HRUN := Lib.hid hrun
                  have HROW := Lib.hid hrow
                  have HBU := Lib.hid (HB.out.trans hbu)
                  have HACC2 : Hid ((acc ++ [p]) ++ wantL (ks.drop (k + 1)) = wantL ks) := Lib.hid (by rw [List.append_assoc]; exact HNO.out (by trivial))
                  clear hrun hrow hbu x0 HNO HYES
                  go_wp2_with (at_builtin
                               refine Lib.wpList_append_run (wr.alloc (.cells #[.int .i64 p] 3)) rfl (.tmp 80) (.tmp 83) 59 59 rfl (.slice V vn vc) (.slice (some ⟨wr.heap.size, 0, none⟩) 1 1) rfl rfl _ _ HRUN.out ?_)
                  go_roundw
                  case rel => exact ⟨k + 1, acc ++ [p], V', vn', vc', by omega, by go_num, rfl, by simp; omega, HACC2, HROW, HBU⟩
                  case measure => simp [intOf]; omega
            · have hcc : ¬ cap = k + 1 := by omega
              obtain ⟨m, hm⟩ : ∃ m, k0 - (k + 1) = m := ⟨_, rfl⟩
              have hmk : k + 1 + m = k0 := by omega
              have HM := Lib.hid hmk
              go_upto_region 19 with (fail)
              go_loopw [12, 14, 67] (fun z _ j wq => ∃ jj : Nat, jj ≤ m ∧ j = .int .i64 (jj : Int) ∧ z = .bool (decide (p ∈ (ks.drop (k + 1)).take jj)) ∧ wr = wq) (fun _ _ j _ => m - (intOf j).toNat)
              case atStart => exact ⟨0, Nat.zero_le _, rfl, by simp, rfl⟩
              case round =>
                obtain ⟨jj, hjm, rfl, rfl, rfl⟩ := hrel
                by_cases hjl : jj < m
                · have hjk : k + 1 + jj < ks.length := by have := HLN.out; omega
                  obtain ⟨b2, off2, e2, y0⟩ := (HHL.out.later HB.out) (k + 1 + jj) hjk
                  simp only [Option.some.injEq, Addr.mk.injEq] at e2
                  obtain ⟨rfl, rfl, _⟩ := e2
                  obtain ⟨q, hq⟩ : ∃ q, ks[k + 1 + jj] = q := ⟨_, rfl⟩
                  rw [hq] at y0
                  have HTK : Hid ((ks.drop (k + 1)).take (jj + 1) = (ks.drop (k + 1)).take jj ++ [q]) := Lib.hid (by rw [List.take_succ_eq_append_getElem (by rw [List.length_drop]; omega), List.getElem_drop, hq])
                  obtain ⟨zb, hzb⟩ : ∃ zb, decide (p ∈ (ks.drop (k + 1)).take jj) = zb := ⟨_, rfl⟩
                  have HZB := Lib.hid hzb
                  rw [hzb]
                  have y1 : wr.cell? ⟨b, off + (k + 1) + jj, none⟩ = some (.int .u8 q) := by rw [Nat.add_assoc off]; exact y0
                  clear hq hzb hjk y0
                  cases zb with
                  | true =>
                    have HZ2 : Hid (decide (p ∈ (ks.drop (k + 1)).take (jj + 1)) = true) := Lib.hid (by rw [HTK.out]; exact decide_eq_true (List.mem_append_left _ (of_decide_eq_true HZB.out)))
                    go_wp2_with fail
                    go_roundw
                    case rel => exact ⟨jj + 1, by omega, by go_num, by rw [HZ2.out], by trivial⟩
                    case measure => simp [intOf]; omega
                  | false =>
                    by_cases hqp : q = p
                    · have HZ2 : Hid (decide (p ∈ (ks.drop (k + 1)).take (jj + 1)) = true) := Lib.hid (by rw [HTK.out, hqp]; simp)
                      have e3 : (q == p) = true := by simpa using hqp
                      go_wp2_with fail
                      go_roundw
                      case rel => exact ⟨jj + 1, by omega, by go_num, by rw [HZ2.out], by trivial⟩
                      case measure => simp [intOf]; omega
                    · have HZ2 : Hid (decide (p ∈ (ks.drop (k + 1)).take (jj + 1)) = false) := Lib.hid (by
                        rw [HTK.out]
                        have h1 := of_decide_eq_false HZB.out
                        refine decide_eq_false fun h2 => ?_
                        rcases List.mem_append.1 h2 with h2 | h2
                        · exact h1 h2
                        · exact hqp (List.mem_singleton.1 h2).symm)
                      have e3 : (q == p) = false := by simpa using hqp
                      go_wp2_with fail
                      go_roundw
                      case rel => exact ⟨jj + 1, by omega, by go_num, by rw [HZ2.out], by trivial⟩
                      case measure => simp [intOf]; omega
                · obtain rfl : jj = m := by omega
                  have HLD : Hid (decide (p ∈ (ks.drop (k + 1)).take jj) = lat) := Lib.hid (by
                    rw [← HLAT.out, List.take_of_length_le (by rw [List.length_drop]; have := HLN.out; have := HM.out; omega)])
                  rw [HLD.out]
                  clear HLD HLAT
                  cases lat with
                  | true =>
                    have HACC2 := Lib.hid (HYES.out (by trivial))
                    clear x0 HNO HYES
                    go_wp2_with fail
                    go_roundw
                    case rel => exact ⟨k + 1, acc, V, vn, vc, by omega, by go_num, rfl, by omega, HACC2, HO, HB⟩
                    case measure => simp [intOf]; omega
                  | false =>
                    obtain ⟨V', vn', vc', wu, hrun, hrow, hbu⟩ := OwnG.more el_int fit_iv HO.out p #[.int .i64 p] rfl HB.out.size (by omega)
                    have HRUN := Lib.hid hrun
                    have HROW := Lib.hid hrow
                    have HBU := Lib.hid (HB.out.trans hbu)
                    have HACC2 : Hid ((acc ++ [p]) ++ wantL (ks.drop (k + 1)) = wantL ks) := Lib.hid (by rw [List.append_assoc]; exact HNO.out (by trivial))
                    clear hrun hrow hbu x0 HNO HYES
                    go_wp2_with (at_builtin
                                 refine Lib.wpList_append_run (wr.alloc (.cells #[.int .i64 p] 3)) rfl (.tmp 80) (.tmp 83) 59 59 rfl (.slice V vn vc) (.slice (some ⟨wr.heap.size, 0, none⟩) 1 1) rfl rfl _ _ HRUN.out ?_)
                    go_roundw
                    case rel => exact ⟨k + 1, acc ++ [p], V', vn', vc', by omega, by go_num, rfl, by simp; omega, HACC2, HROW, HBU⟩
                    case measure => simp [intOf]; omega
          · obtain rfl : k = k0 := by omega
            obtain rfl : acc = wantL ks := by
              have h1 := HACC.out
              rw [List.drop_of_length_le (by rw [HLN.out]; exact Nat.le_refl _)] at h1
              rw [← h1]
              exact (List.append_nil _).symm
            obtain ⟨s, hs⟩ : ∃ s, (wantL ks).length = s := ⟨_, rfl⟩
            have HSL := Lib.hid hs
            obtain ⟨hvn, _⟩ := OwnG.sl fit_iv HO.out
            rw [hs] at hvn
            subst hvn
            have hs60 : vn ≤ 60 := by omega
            obtain ⟨wm, hwm⟩ : ∃ W, W = wr := ⟨_, rfl⟩
            subst hwm
            have HWM := Lib.hid (HWF.out.later HB.out)
            have HBM := Lib.hid HB
            have HM1 : Hid (w1.heap.size ≤ wm.heap.size) := Lib.hid (Nat.le_trans HBL.out.size HB.out.size)
            have HOM := Lib.hid HO.out
            have HFT : Hid (∀ b, wfoot rb A1 b → b < wl.heap.size) := Lib.hid fun b e => by
              rcases e with e | e
              · rw [e]; exact HWF.out.cel.lt
              · exact (HWF.out.row.lt b (by rw [own_blk]; exact e.symm)).2
            clear HO HB HACC hs hacl
            go_wp2_with fail
            go_loopw [15] (fun t wq => ∃ j : Nat, 1 ≤ j ∧ (j : Int) ≤ N ∧ t = .int .i64 (j : Int) ∧ Hid (WcAt w1.heap.size wq rb ⟨(j : Int) - 1, ordA ks N ++ ordB k N⟩ A1 c1) ∧ Hid (Only (wfoot rb A1) wm wq)) (fun t _ => (N - intOf t).toNat)
            case atStart => exact ⟨1, Nat.le_refl _, hN1, rfl, HWM, Lib.hid (Only.of_below (Below.refl _ _))⟩
            case round =>
              clear HWM
              obtain ⟨j, hj1, hjN, rfl, HW, HB⟩ := hrel
              have HT := TickC_any HW.out (Nat.le_trans HM1.out HB.out.size) ord_asc (by show (0 : Int) ≤ (j : Int) - 1; omega)
              by_cases hlt : (j : Int) < N
              · rw [ord_tick (by omega) hN2, Int.sub_add_cancel] at HT
                have HT := Lib.hid HT
                go_wp2_with fail
                refine HT.out.mono ?_
                rintro e wt ⟨v, rfl, hown, hw, ho⟩
                obtain ⟨V5, c5, rfl⟩ := row_slice hown
                have HWN : Hid (WcAt w1.heap.size wt rb ⟨((j + 1 : Nat) : Int) - 1, ordA ks N ++ ordB k N⟩ A1 c1) := Lib.hid (by
                  rw [show ((j + 1 : Nat) : Int) - 1 = (j : Int) by omega]
                  exact hw)
                have HON := Lib.hid (HB.out.trans ho fun _ _ e => e)
                clear hown hw ho HT
                go_wp2_with fail
                go_roundw
                case rel => exact ⟨j + 1, by omega, by omega, by go_num, HWN, HON⟩
                case measure => simp [intOf]; omega
              · obtain rfl : N = (j : Int) := by omega
                rw [ord_last (by omega) hN2] at HT
                have HT := Lib.hid HT
                go_wp2_with fail
                refine HT.out.mono ?_
                rintro e wg ⟨v, rfl, hown, hw, ho⟩
                obtain ⟨VG, cg, rfl⟩ := row_slice hown
                have hgl : ((wantL ks).map kk).length = vn := by rw [List.length_map, HSL.out]
                rw [hgl] at hown ⊢
                have HWG := Lib.hid hw
                have HOG := Lib.hid (HB.out.trans ho fun _ _ e => e)
                have HVG := Lib.hid (OwnG.sl fit_ks hown).2
                have HVW := Lib.hid (OwnG.sl fit_iv (show OwnG 3 1 iv wl.heap.size wg (.slice V vn vc) (wantL ks) from row_only HOM.out HOG.out fun b hb e => by have h1 := HFT.out b e; have h2 := (HOM.out.lt b hb).1; omega)).2
                have HBG : Hid (Below w1.heap.size w1 wg) := Lib.hid ((HBL.out.trans (HBM.out.mono HBL.out.size)).trans (only_wide (HWF.out.later HBM.out) HOG.out HM1.out))
                clear hown hw ho HT hgl HOM HFT HB HW
                go_wp2_with fail
                go_loopw [17, 99] (fun _ i wq => ∃ q : Nat, q ≤ vn ∧ i = .int .i64 (q : Int) ∧ Hid (Below wg.heap.size wg wq)) (fun _ i _ => vn - (intOf i).toNat)
                case atStart => exact ⟨0, Nat.zero_le _, rfl, Lib.hid (Below.refl _ _)⟩
                case round =>
                  obtain ⟨q, hqn, rfl, HB⟩ := hrel
                  by_cases hlt : q < vn
                  · have hqw : q < (wantL ks).length := by rw [HSL.out]; exact hlt
                    obtain ⟨p, hp⟩ : ∃ p, (wantL ks)[q] = p := ⟨_, rfl⟩
                    obtain ⟨gg, og, eg, hrg⟩ := HVG.out q (by rw [List.length_map, List.length_map]; exact hqw)
                    obtain ⟨gw, ow, ew, hrw⟩ := HVW.out q (by rw [List.length_map]; exact hqw)
                    rw [List.getElem_map, List.getElem_map, hp] at hrg
                    rw [List.getElem_map, hp] at hrw
                    subst eg
                    subst ew
                    have HT0 : Hid (∀ wi, Below wr.heap.size wr wi → wi.rangeAt gg (og + q * 6) [.int .i64 p, .int .i64 0, .int .i64 0, .int .i64 0, .int .i64 0, .int .i64 0]) := Lib.hid fun wi hb => range_later (range_later hrg HB.out) hb
                    have HT1 : Hid (∀ wi, Below wr.heap.size wr wi → wi.cell? ⟨gw, ow + q, none⟩ = some (.int .i64 p)) := Lib.hid fun wi hb => by
                      have h1 := range_later (range_later hrw HB.out) hb 0 _ rfl
                      rw [Nat.mul_one, Nat.add_zero] at h1
                      exact h1
                    have HEQ : Hid (∀ wi, (binOp .neq 34 (.agg #[.int .i64 p, .int .i64 0, .int .i64 0, .int .i64 0, .int .i64 0, .int .i64 0]) (.agg #[.int .i64 p, .int .i64 0, .int .i64 0, .int .i64 0, .int .i64 0, .int .i64 0])).run Try.prog wi = .ok (.bool false) wi) := Lib.hid fun wi => by
                      have h1 := key_neqc (kk p) (kk p) wi
                      rw [decide_eq_true rfl] at h1
                      exact h1
                    have HI := Lib.hid hlt
                    clear hp hrg hrw hqw
                    go_upto_region 35 with (fail)
                    refine Reg.region_heavy (by kernel_rfl) 15 [15] (whOrd35 vn vc cg gw gg ow og q p) (fun a => Below wr.heap.size wr a) (fun a => Below wr.heap.size wr a) (fun V => [(some 102, V 0), (some 103, V 1), (some 104, V 2), (some 105, V 3), (some 106, V 4), (some 107, V 5), (some 108, V 6), (some 109, V 7), (some 110, V 8), (some 111, V 9), (some 112, V 10), (some 113, V 11), (some 114, V 12), (some 115, V 13), (some 116, V 14), (some 117, V 15)]) (by kernel_rfl) (by kernel_rfl) (by kernel_rfl) (fun V => rfl) ?_ ?_ ?_
                    · exact (Below.refl _ _).drew
                    · intro i o ho
                      have hi : i < 16 := (Array.getElem?_eq_some_iff.1 ho).1
                      rcases i with _ | _ | _ | _ | _ | _ | _ | _ | _ | _ | _ | _ | _ | _ | _ | _ | i
                      rotate_right
                      · omega
                      all_goals obtain rfl := Option.some.inj ho
                      all_goals intro ρ wi hE hI hs hd
                      all_goals try dsimp only at hI
                      · have e17 : ρ (.tmp 17) = .int .i64 (q : Int) := hs 17; exact Reg.gw hI
                      · have e16 : ρ (.tmp 16) = .slice (some ⟨gg, og, none⟩) vn cg := hs 16; exact Reg.gw hI
                      · obtain ⟨_, rfl, e103⟩ := hd 1 103; exact Reg.gw hI
                      · obtain ⟨_, rfl, e102⟩ := hd 0 102; obtain ⟨_, rfl, e104⟩ := hd 2 104
                        have z1 : ¬ (vn : Int) ≤ (q : Int) := by have := HI.out; omega
                        exact Reg.gw hI
                      · obtain ⟨_, rfl, e105⟩ := hd 3 105; exact Reg.gw hI
                      · have e16 : ρ (.tmp 16) = .slice (some ⟨gg, og, none⟩) vn cg := hs 16
                        refine Reg.yes ?_
                        exact Reg.gw hI
                      · have e17 : ρ (.tmp 17) = .int .i64 (q : Int) := hs 17
                        refine Reg.yes ?_
                        exact Reg.gw hI
                      · obtain ⟨_, rfl, e107⟩ := hd 5 107; obtain ⟨_, rfl, e108⟩ := hd 6 108
                        refine Reg.yes ?_
                        have z1 : (0 : Int) ≤ (q : Int) := by omega
                        have z2 : (q : Int) < (vn : Int) := by have := HI.out; omega
                        have z3 : q < vn := HI.out; exact Reg.gw hI
                      · obtain ⟨_, rfl, e109⟩ := hd 7 109
                        refine Reg.yes ?_
                        have q0 := HT0.out _ hI 0 _ rfl
                        rw [Nat.add_zero] at q0
                        have q1 := HT0.out _ hI 1 _ rfl; have q2 := HT0.out _ hI 2 _ rfl; have q3 := HT0.out _ hI 3 _ rfl; have q4 := HT0.out _ hI 4 _ rfl; have q5 := HT0.out _ hI 5 _ rfl; exact Reg.gw hI
                      · have e9 : ρ (.tmp 9) = .slice (some ⟨gw, ow, none⟩) vn vc := hs 9
                        refine Reg.yes ?_
                        exact Reg.gw hI
                      · have e17 : ρ (.tmp 17) = .int .i64 (q : Int) := hs 17
                        refine Reg.yes ?_
                        exact Reg.gw hI
                      · obtain ⟨_, rfl, e111⟩ := hd 9 111; obtain ⟨_, rfl, e112⟩ := hd 10 112
                        refine Reg.yes ?_
                        have z1 : (0 : Int) ≤ (q : Int) := by omega
                        have z2 : (q : Int) < (vn : Int) := by have := HI.out; omega
                        have z3 : q < vn := HI.out; exact Reg.gw hI
                      · obtain ⟨_, rfl, e113⟩ := hd 11 113
                        refine Reg.yes ?_
                        have q0 := HT1.out _ hI; exact Reg.gw hI
                      · obtain ⟨_, rfl, e114⟩ := hd 12 114
                        refine Reg.yes ?_
                        exact Reg.gw hI
                      · obtain ⟨_, rfl, e110⟩ := hd 8 110; obtain ⟨_, rfl, e115⟩ := hd 13 115
                        refine Reg.yes ?_
                        exact Reg.Gives.value (v := .bool false) (w' := wi) (exec_bin .neq 34 _ _ _ rfl _ _ e110 e115 (by kernel_rfl) (HEQ.out wi)) (Reg.OwedH.same hI rfl)
                      · obtain ⟨_, rfl, e106⟩ := hd 4 106; obtain ⟨_, rfl, e116⟩ := hd 14 116; have hc := hE.const; exact Reg.gw hI
                    · intro V wf hV hI
                      have hV15 : V 15 = .bool false := hV 15 (by decide) rfl
                      simp only [Reg.putsO, List.foldl_cons, List.foldl_nil, Act.put, List.setIfInBounds_toArray, List.set_cons_succ, List.set_cons_zero, hV15]
                      replace hI : (fun a => Below wr.heap.size wr a) wf := hI
                      clear hV hV15
                      have HBN := Lib.hid (HB.out.trans (hI.mono HB.out.size))
                      clear hI HT0 HT1 HEQ HI
                      go_wp2_with fail
                      go_roundw
                      case rel => exact ⟨q + 1, by omega, by go_num, HBN⟩
                      case measure => simp [intOf]; omega
                  · obtain rfl : q = vn := by omega
                    have HK2 := Lib.hid (Keys_any (HWG.out.later HB.out))
                    go_wp2_with fail
                    refine HK2.out.mono ?_
                    rintro e wk ⟨v, rfl, hown, hbk⟩
                    obtain ⟨VK, ck, rfl⟩ := row_slice hown
                    have hkl : ((ordB k (j : Int)).map (·.1)).length = k := by rw [List.length_map]; exact HKD.out
                    dsimp only
                    rw [hkl]
                    have HBK := Lib.hid hbk
                    clear hown hbk hkl
                    go_wp2_with fail
                    go_returns
                    exact ⟨rfl, HB1.out.trans ((HBG.out.trans ((HB.out.trans (HBK.out.mono HB.out.size)).mono HBG.out.size)).mono HB1.out.size)⟩


theorem opened {H : Type} {enc : TypeId × Value → H} {W : World} {base : Nat} {gs : List (DataW H)} (v0 : Value) (d0 : DataW H) (p0 : List MemPlace) (v1 : Value) (d1 : DataW H) (p1 : List MemPlace)
    (o0 : Value.okWide Try.prog W .any base 55 v0) (t0 : DataW.Trod enc Try.prog W 0 (fun _ => true) true 55 v0 d0 p0)
    (o1 : Value.okWide Try.prog W .any base 5 v1) (t1 : DataW.Trod enc Try.prog W 0 (fun _ => true) true 5 v1 d1 p1)
    (hsz : (DataW.weightsEach Try.prog ([55, 5] ++ []) ([d0, d1] ++ gs)).all (· ≤ reachBytes) = true) :
    Calls Try.prog 6 #[v0, v1] W fun e W' => e = .returned (.bool true) ∧ Below W.heap.size W W' := by
  obtain ⟨A, ks, cap, rfl, h1, h2, h3, h4, h5⟩ := arg_bytes o0 t0 (Base.small_of hsz (j := 0) rfl rfl)
  obtain ⟨a, rfl, ha⟩ := arg_u8 o1 t1
  exact walk A ks cap a W h1 h2 h3 h4 ha h5

theorem contract (H : Type) (enc : TypeId × Value → H) (W : World) (base : Nat) (args : Array Value) (ds gs : List (DataW H)) (before : List MemPlace)
    (hval : ∀ (j : Nat) t v, Try.f6.params[j]? = some t → args[j]? = some v → Value.okWide Try.prog W .any base t v)
    (hW : DataW.Whole enc Try.prog Try.f6.params.toList Rows.wheelOrderSpec.vars false W args.toList ds gs before)
    (hsz : (DataW.weightsEach Try.prog (Try.f6.params.toList ++ []) (ds ++ gs)).all (· ≤ reachBytes) = true) :
    Calls Try.prog 6 args W fun e W' => ∃ v, e = .returned v ∧ Rows.wheelOrderSpec.post enc Try.prog Try.f6 false true false false W args v W' := by
  have hW0 := hW
  obtain ⟨p, q, hA0, hV, rfl, _, _⟩ := hW
  have hA : DataW.TrodAll enc Try.prog W 0 (fun _ => true) true Try.f6.params.toList args.toList ds p := hA0
  rw [Try.params6] at hA hval hsz
  obtain ⟨v0, vs0, d0, ds0, p0, q0, hargs, rfl, rfl, h0, r0⟩ := trodAll_cons hA
  obtain ⟨v1, vs1, d1, ds1, p1, q1, rfl, rfl, rfl, h1, r1⟩ := trodAll_cons r0
  obtain ⟨rfl, rfl, rfl⟩ := trodAll_nil r1
  obtain rfl : args = #[v0, v1] := by cases args; simp_all
  refine (opened v0 d0 p0 v1 d1 p1 (hval 0 55 v0 rfl rfl) h0 (hval 1 5 v1 rfl rfl) h1 hsz).mono fun e W' ⟨he, hb⟩ => ⟨_, he, ?_⟩
  exact Base.law_post (tb := 4) Base.laidOut (by kernel_rfl) rfl Try.underlying4 rfl (fun l hl => by
    rw [Try.params6] at hl
    match l, hl with
    | [_, _], _ => rfl) (by rw [Try.params6]; rfl) hW0 hb

theorem laid_met (os : Os) : laidMet Try.prog Rows.wheelOrderRow.laid ((Base.plainWorld os).forCall (fun _ _ => 0) ⟨#[], #[.slice none 0 0, .int .u8 0], []⟩).memory := laidMet_nil _ _
theorem reads (os : Os) {H : Type} (enc : TypeId × Value → H) : ∃ places, DataW.whole enc Try.prog ((Base.plainWorld os).forCall (fun _ _ => 0) ⟨#[], #[.slice none 0 0, .int .u8 0], []⟩).memory Try.f6.params.toList Rows.wheelOrderSpec.vars false (#[.slice none 0 0, .int .u8 0] : Array Value).toList 8 = some ([.nil, .lit (.int .u8 0)], [], places) :=
  ⟨[], by kernel_rfl⟩

set_option maxRecDepth 100000 in
theorem lifted (os : Os) (started : os.Started) (H : Type) (enc : TypeId × Value → H) (F : Stop.Interp) :
    ReturnsInHanded {} Try.checked os 6 .any ((OpenSpec.ofChange Rows.wheelOrderSpec).preRow enc Try.prog Try.f6 Rows.wheelOrderRow.domain false Rows.wheelOrderRow.laid) (((OpenSpec.ofChange Rows.wheelOrderSpec).at F).post enc Try.prog Try.f6 false true false false) := by
  obtain ⟨places, hx⟩ := reads os enc
  refine returnsInHanded_of_row (C := Try.checked) (s := OpenSpec.ofChange Rows.wheelOrderSpec) Base.own started (by kernel_rfl) Try.func6
    (witness_row_at (enc := enc) (C := Try.checked) false (Base.plainWorld os) #[.slice none 0 0, .int .u8 0] rfl (by kernel_rfl) (by kernel_rfl) (by kernel_rfl)
      (OpenSpec.preRow_of_cond 8 hx (by kernel_rfl) (fun k hk => by cases hk) (by kernel_rfl) (laid_met os))) ?_
  intro W base args ds gs before hval hW _ _ hsz _ _ _
  exact contract H enc W base args ds gs before hval hW hsz

theorem said : Rows.WheelOrderSaid :=
  OpenClaim.holds_of_cond 6 Try.f6 rfl rfl rfl rfl rfl rfl rfl ⟨rfl, rfl, rfl, rfl, rfl⟩ rfl rfl rfl rfl rfl (by kernel_rfl) Try.func6 (by kernel_rfl)
    (of_decide_eq_true (by kernel_rfl)) (by unfold Func.isWrapper; rw [if_neg (of_decide_eq_false (by kernel_rfl))]; exact ⟨rfl, rfl⟩)
    (fun os started H enc _ F => by rw [OpenClaim.pre_eq_preRow]; exact lifted os started H enc F)
#print axioms said
end Go.Proofs.Ytnbdgjaekjneaaa.WheelOrder
