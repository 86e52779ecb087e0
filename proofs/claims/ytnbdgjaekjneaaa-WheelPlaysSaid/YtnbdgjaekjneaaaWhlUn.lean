/-
  Layer 12, the code's wheel: how many timers are due up to a time (until); keys of timers. Conditions: none.
-/
import Derived.Test.YtnbdgjaekjneaaaWhlPl
namespace Go.Proofs.Ytnbdgjaekjneaaa.Whl
set_option maxRecDepth 100000
open Go.RowKit Go.Deep Go.Proofs.Ytnbdgjaekjneaaa.Mem

/-- How many timers are due up to a time. -/
def untilL (l : List Tm) (t : Int) : Nat := l.countP fun x => decide (x.2 ≤ t)
abbrev Asc (l : List Tm) : Prop := l.Pairwise fun a b => a.2 ≤ b.2
theorem untilL_at {l : List Tm} {t : Int} {k : Nat} (hk : k ≤ l.length) (h1 : ∀ x ∈ l.take k, x.2 ≤ t) (h2 : ∀ x ∈ l.drop k, t < x.2) : untilL l t = k := by
  unfold untilL
  conv => lhs; rw [← List.take_append_drop k l]
  rw [List.countP_append, List.countP_eq_length.2 fun x hx => decide_eq_true (h1 x hx), List.countP_eq_zero.2 fun x hx => by simpa using h2 x hx, List.length_take]
  omega
theorem Asc.low {l : List Tm} (h : Asc l) {t : Int} {k : Nat} (hk : k < l.length) (hd : l[k].2 ≤ t) : ∀ x ∈ l.take (k + 1), x.2 ≤ t := by
  intro x hx
  obtain ⟨i, hi, rfl⟩ := List.getElem_of_mem hx
  rw [List.length_take] at hi
  rw [List.getElem_take]
  by_cases e : i = k
  · subst e; exact hd
  · exact Int.le_trans (List.pairwise_iff_getElem.1 h i k (by omega) hk (by omega)) hd
theorem Asc.high {l : List Tm} (h : Asc l) {t : Int} {k : Nat} (hk : k < l.length) (hd : t < l[k].2) : ∀ x ∈ l.drop k, t < x.2 := by
  intro x hx
  obtain ⟨i, hi, rfl⟩ := List.getElem_of_mem hx
  rw [List.length_drop] at hi
  rw [List.getElem_drop]
  by_cases e : i = 0
  · subst e; exact hd
  · exact Int.lt_of_lt_of_le hd (List.pairwise_iff_getElem.1 h k (k + i) hk (by omega) (by omega))
def whUn1 (rb g n ac ii : Nat) (due tm : Int) : Nat → Value → World → Prop
  | 0, v, _ => v = .pointer (some ⟨rb, 0, none⟩)
  | 1, v, _ => v = .pointer (some ⟨rb, 0, none⟩)
  | 2, v, _ => v = .pointer (some ⟨rb, 1, none⟩)
  | 3, v, _ => v = .slice (some ⟨g, 0, none⟩) n ac
  | 4, v, _ => v = .int .i64 (ii : Int)
  | 5, v, _ => v = .pointer (some ⟨g, ii * 7, none⟩)
  | 6, v, _ => v = .pointer (some ⟨g, ii * 7 + 6, none⟩)
  | 7, v, _ => v = .int .i64 due
  | 8, v, _ => v = .int .i64 tm
  | 9, v, _ => v = .bool (decide (tm < due))
  | 10, v, _ => v = .bool (decide (tm < due))
  | _, _, _ => True
theorem until1_any {B rb ac : Nat} {w : World} {R : Wr} {A : Option Addr} (h : WcAt B w rb R A ac) (ii pw pt : Nat) (tm : Int) (hi : ii < R.l.length) (hpw : w.cell? ⟨pw, 0, none⟩ = some (.pointer (some ⟨rb, 0, none⟩))) (hpt : w.cell? ⟨pt, 0, none⟩ = some (.int .i64 tm)) :
    Calls Try.prog 34 #[.int .i64 (ii : Int), .pointer (some ⟨pw, 0, none⟩), .pointer (some ⟨pt, 0, none⟩)] w fun e w' => e = .returned (.bool (decide (tm < R.l[ii].2))) ∧ Below w.heap.size w w' := by
  obtain ⟨⟨k, due⟩, ht⟩ : ∃ t, R.l[ii] = t := ⟨_, rfl⟩
  obtain ⟨g, rfl, hr⟩ := h.at (List.getElem?_eq_getElem hi)
  rw [ht] at hr ⊢
  have HPW : Hid (∀ wi, Below w.heap.size w wi → wi.cell? ⟨pw, 0, none⟩ = some (.pointer (some ⟨rb, 0, none⟩))) := Lib.hid fun wi hb => (hb.cell (block_of_cell hpw)).trans hpw
  have HPT : Hid (∀ wi, Below w.heap.size w wi → wi.cell? ⟨pt, 0, none⟩ = some (.int .i64 tm)) := Lib.hid fun wi hb => (hb.cell (block_of_cell hpt)).trans hpt
  have HT0 : Hid (∀ wi, Below w.heap.size w wi → wi.cell? ⟨g, ii * 7 + 6, none⟩ = some (.int .i64 due)) := Lib.hid fun wi hb => range_later hr hb 6 _ rfl
  obtain ⟨n, hn⟩ : ∃ n, R.l.length = n := ⟨_, rfl⟩
  have HR1 : Hid (∀ wi, Below w.heap.size w wi → wi.cell? ⟨rb, 1, none⟩ = some (.slice (some ⟨g, 0, none⟩) n ac)) := Lib.hid fun wi hb => by
    have h1 := (h.later hb).cel.cell (j := 1) rfl
    rw [hn] at h1
    exact h1
  rw [hn] at hi
  have HI := Lib.hid hi
  show Calls _ _ _ _ fun e w' => e = .returned (.bool (decide (tm < due))) ∧ _
  clear h ht hr hpw hpt hn hi
  go_enter Try.func34, Try.ntmps34
  go_upto_region 1 with (fail)
  refine Reg.region_heavy (by kernel_rfl) 10 [10] (whUn1 rb g n ac ii due tm) (fun a => Below w.heap.size w a) (fun a => Below w.heap.size w a) (fun V => [(some 5, V 0), (some 6, V 1), (some 7, V 2), (some 8, V 3), (some 9, V 4), (some 10, V 5), (some 11, V 6), (some 12, V 7), (some 13, V 8), (some 14, V 9), (some 4, V 10)]) (by kernel_rfl) (by kernel_rfl) (by kernel_rfl) (fun V => rfl) ?_ ?_ ?_
  · exact (Below.refl _ _).drew
  · intro i o ho
    have hi : i < 11 := (Array.getElem?_eq_some_iff.1 ho).1
    rcases i with _ | _ | _ | _ | _ | _ | _ | _ | _ | _ | _ | i
    rotate_right
    · omega
    all_goals obtain rfl := Option.some.inj ho
    all_goals intro ρ wi hE hI hs hd
    all_goals try dsimp only at hI
    · have e1 : ρ (.tmp 1) = .pointer (some ⟨pw, 0, none⟩) := hs 1; have x0 := HPW.out _ hI; exact Reg.gw hI
    · obtain ⟨_, rfl, e5⟩ := hd 0 5; exact Reg.gw hI
    · obtain ⟨_, rfl, e6⟩ := hd 1 6; exact Reg.gw hI
    · obtain ⟨_, rfl, e7⟩ := hd 2 7; have x0 := HR1.out _ hI; exact Reg.gw hI
    · have e0 : ρ (.tmp 0) = .int .i64 (ii : Int) := hs 0; exact Reg.gw hI
    · obtain ⟨_, rfl, e8⟩ := hd 3 8; obtain ⟨_, rfl, e9⟩ := hd 4 9
      have z1 : (0 : Int) ≤ (ii : Int) := by omega
      have z2 : (ii : Int) < (n : Int) := by have := HI.out; omega
      have z3 : ii < n := HI.out; exact Reg.gw hI
    · obtain ⟨_, rfl, e10⟩ := hd 5 10; exact Reg.gw hI
    · obtain ⟨_, rfl, e11⟩ := hd 6 11; have x0 := HT0.out _ hI; exact Reg.gw hI
    · have e2 : ρ (.tmp 2) = .pointer (some ⟨pt, 0, none⟩) := hs 2; have x0 := HPT.out _ hI; exact Reg.gw hI
    · obtain ⟨_, rfl, e12⟩ := hd 7 12; obtain ⟨_, rfl, e13⟩ := hd 8 13; exact Reg.gw hI
    · obtain ⟨_, rfl, e14⟩ := hd 9 14; exact Reg.gw hI
  · intro V wf hV hI
    have hV10 : V 10 = .bool (decide (tm < due)) := hV 10 (by decide) rfl
    simp only [Reg.putsO, List.foldl_cons, List.foldl_nil, Act.put, List.setIfInBounds_toArray, List.set_cons_succ, List.set_cons_zero, hV10]
    replace hI : (fun a => Below w.heap.size w a) wf := hI
    clear hV hV10
    have HB := Lib.hid hI
    clear hI
    go_wp2_with fail
    go_returns
    exact ⟨rfl, HB.out⟩
set_option maxHeartbeats 1000000 in
theorem search_any {B rb ac : Nat} {w : World} {R : Wr} {A : Option Addr} (h : WcAt B w rb R A ac) (pw pt : Nat) (tm : Int) (hs : Asc R.l) (hpw : w.cell? ⟨pw, 0, none⟩ = some (.pointer (some ⟨rb, 0, none⟩))) (hpt : w.cell? ⟨pt, 0, none⟩ = some (.int .i64 tm)) :
    Calls Try.prog 33 #[.int .i64 (R.l.length : Int), .func (.func 34) #[] #[.pointer (some ⟨pw, 0, none⟩), .pointer (some ⟨pt, 0, none⟩)]] w fun e w' => e = .returned (.int .i64 (untilL R.l tm : Nat)) ∧ Below w.heap.size w w' := by
  have HR := Lib.hid h
  have HS := Lib.hid hs
  have HPW := Lib.hid hpw
  have HPT := Lib.hid hpt
  have hl := h.len
  obtain ⟨F, hF⟩ : ∃ F, untilL R.l tm = F := ⟨_, rfl⟩
  have HF := Lib.hid hF
  rw [hF]
  obtain ⟨n, hn⟩ : ∃ n, R.l.length = n := ⟨_, rfl⟩
  have HN := Lib.hid hn
  rw [hn] at hl ⊢
  clear h hs hF hn hpw hpt
  go_enter Try.func33, Try.ntmps33
  go_wp2_with fail
  go_loopw [5, 6] (fun i j wr => ∃ k m : Nat, k ≤ m ∧ m ≤ n ∧ i = .int .i64 (k : Int) ∧ j = .int .i64 (m : Int) ∧ Hid (∀ x ∈ R.l.take k, x.2 ≤ tm) ∧ Hid (∀ x ∈ R.l.drop m, tm < x.2) ∧ Hid (Below w.heap.size w wr)) (fun i j _ => (intOf j).toNat - (intOf i).toNat)
  case atStart => exact ⟨0, n, Nat.zero_le _, Nat.le_refl _, rfl, rfl, Lib.hid (fun x hx => by cases hx), Lib.hid (fun x hx => by rw [List.drop_of_length_le (by have := HN.out; omega)] at hx; cases hx), Lib.hid (Below.refl _ _)⟩
  case round =>
    obtain ⟨k, m, hkm, hmn, rfl, rfl, H1, H2, HB⟩ := hrel
    by_cases hlt : k < m
    · obtain ⟨q, hq⟩ : ∃ q, (k + m) / 2 = q := ⟨_, rfl⟩
      have hqn : q < n := by omega
      have hkq : k ≤ q := by omega
      have hqm : q < m := by omega
      have hql : q < R.l.length := by have := HN.out; omega
      have hsum : IntKind.i64.wrap ((k : Int) + (m : Int)) = (k : Int) + (m : Int) := by rw [IntKind.wrap_i64]; omega
      obtain ⟨b, hb⟩ : ∃ b, decide (tm < R.l[q].2) = b := ⟨_, rfl⟩
      have HC : Hid (∀ wi, Below wr.heap.size wr wi → Calls Try.prog 34 #[.int .i64 (q : Int), .pointer (some ⟨pw, 0, none⟩), .pointer (some ⟨pt, 0, none⟩)] wi fun e w' => e = .returned (.bool b) ∧ Below wi.heap.size wi w') := Lib.hid fun wi hw => by
        have hB := HB.out.trans (hw.mono HB.out.size)
        have h1 := until1_any (HR.out.later hB) q pw pt tm hql ((hB.cell (block_of_cell HPW.out)).trans HPW.out) ((hB.cell (block_of_cell HPT.out)).trans HPT.out)
        rw [hb] at h1
        exact h1
      have HL : Hid (b = false → ∀ x ∈ R.l.take (q + 1), x.2 ≤ tm) := Lib.hid fun e => HS.out.low hql (by have h3 := of_decide_eq_false (hb.trans e); omega)
      have HH : Hid (b = true → ∀ x ∈ R.l.drop q, tm < x.2) := Lib.hid fun e => HS.out.high hql (of_decide_eq_true (hb.trans e))
      clear hb hql
      have hhalf : ((k : Int) + (m : Int)) / 2 = (q : Int) := by omega
      go_upto_region 4 with (fail)
      try simp only [hhalf]
      have HC2 := Lib.hid (HC.out wr (Below.refl _ _))
      go_wp2_with fail
      refine HC2.out.mono ?_
      rintro e w2 ⟨rfl, hb2⟩
      have HB2 := Lib.hid (HB.out.trans (hb2.mono HB.out.size))
      clear hb2 HC HC2
      cases b with
      | true =>
        have HH2 := Lib.hid (HH.out rfl)
        clear HL HH
        go_wp2_with fail
        go_roundw
        case rel => exact ⟨k, q, by omega, by omega, rfl, rfl, H1, HH2, HB2⟩
        case measure => simp [intOf]; omega
      | false =>
        have HL2 := Lib.hid (HL.out rfl)
        clear HL HH
        go_wp2_with fail
        go_roundw
        case rel => exact ⟨q + 1, m, by omega, by omega, by go_num, rfl, HL2, H2, HB2⟩
        case measure => simp [intOf]; omega
    · obtain rfl : k = m := by omega
      have HE : Hid (F = k) := Lib.hid (by rw [← HF.out]; exact untilL_at (by have := HN.out; omega) H1.out H2.out)
      go_wp2_with fail
      go_returns
      exact ⟨ret_int (by rw [HE.out]), HB.out⟩
theorem Until_any {B rb ac : Nat} {w : World} {R : Wr} {A : Option Addr} (h : WcAt B w rb R A ac) (tm : Int) (hs : Asc R.l) :
    Calls Try.prog 26 #[.pointer (some ⟨rb, 0, none⟩), .int .i64 tm] w fun e w' => e = .returned (.int .i64 (untilL R.l tm : Nat)) ∧ Below w.heap.size w w' := by
  obtain ⟨wa, hwa⟩ : ∃ W, W = w.alloc (.cells #[.pointer (some ⟨rb, 0, none⟩)] 25) := ⟨_, rfl⟩
  have hba : Below w.heap.size w wa := by rw [hwa]; exact below_alloc _ _
  have hca : Cells wa w.heap.size 25 [.pointer (some ⟨rb, 0, none⟩)] := by rw [hwa]; exact cells_new _ _ _ _ rfl
  have hsz : wa.heap.size = w.heap.size + 1 := by rw [hwa]; exact World.size_alloc _ _
  obtain ⟨wb, hwb⟩ : ∃ W, W = wa.alloc (.cells #[.int .i64 tm] 3) := ⟨_, rfl⟩
  have hbb : Below wa.heap.size wa wb := by rw [hwb]; exact below_alloc _ _
  have hcb : Cells wb wa.heap.size 3 [.int .i64 tm] := by rw [hwb]; exact cells_new _ _ _ _ rfl
  rw [hsz] at hcb
  have hca2 := hca.later hbb
  have hB := hba.trans (hbb.mono hba.size)
  have hr := h.later hB
  have x0 := hca2.cell (j := 0) rfl
  have x1 := hcb.cell (j := 0) rfl
  have c1 := hr.cel.cell (j := 1) rfl
  have HC := Lib.hid (search_any hr w.heap.size (w.heap.size + 1) tm hs x0 x1)
  obtain ⟨n, hn⟩ : ∃ n, R.l.length = n := ⟨_, rfl⟩
  rw [hn] at c1 HC
  have HB := Lib.hid hB
  clear h hs hba hca hbb hcb hca2 hB hr hn hsz
  go_enter Try.func26, Try.ntmps26
  go_upto_region 1 with (fail)
  rw [← hwa, ← hwb]
  clear hwa hwb
  go_wp2_with fail
  refine HC.out.mono ?_
  rintro e w2 ⟨rfl, hb2⟩
  go_wp2_with fail
  go_returns
  exact ⟨rfl, HB.out.trans (hb2.mono HB.out.size)⟩
end Go.Proofs.Ytnbdgjaekjneaaa.Whl
