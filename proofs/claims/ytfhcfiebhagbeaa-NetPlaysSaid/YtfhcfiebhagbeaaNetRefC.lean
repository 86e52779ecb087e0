/-
  Layer 11, the document's net: cut, Set. Conditions: none.
-/
import Derived.Test.YtfhcfiebhagbeaaNetRef
namespace Go.Proofs.Ytfhcfiebhagbeaa.Net
set_option maxRecDepth 100000
open Go.RowKit Go.Deep Go.Proofs.Ytfhcfiebhagbeaa.Mem

theorem row_at {sz B : Nat} {T : TypeId} {w : World} {A : Option Addr} {n c k : Nat} {vs : List (List Value)} {v : List Value} (h : w.ownsRow B T sz (.slice A n c) vs.length vs.flatten) (hf : Fit sz vs) (hv : vs[k]? = some v) :
    ∃ g, A = some ⟨g, 0, none⟩ ∧ w.rangeAt g (k * sz) v ∧ B ≤ g ∧ g < w.heap.size := by
  obtain ⟨hk, e⟩ := List.getElem?_eq_some_iff.1 hv
  rcases h.2 with ⟨_, h0⟩ | ⟨g, cap, cur, e1, _⟩
  · omega
  · simp only [Value.slice.injEq] at e1
    have hr := h
    rw [e1.1, e1.2.1] at hr
    obtain ⟨hc, _⟩ := cells_of_own hr
    refine ⟨g, e1.1, fun j u hu => hc.cell ?_, (hr.lt g rfl)⟩
    have hj : j < sz := by
      have := (List.getElem?_eq_some_iff.1 hu).1
      rwa [← e, hf.len _ (List.getElem_mem hk)] at this
    rw [flatten_at hf.len k hk j hj, e]
    exact hu
/-- Is this pair these two nodes, either way? -/
def hitC (a b : Int) (c : Int × Int) : Bool := (decide (c.1 = a) && decide (c.2 = b)) || (decide (c.1 = b) && decide (c.2 = a))
def cutL (cs : List (Int × Int)) (a b : Int) : Bool := cs.any (hitC a b)
set_option maxHeartbeats 1000000 in
theorem cut_any {B rb ac cc : Nat} {R : Rf} {A C : Option Addr} {w : World} (h : RefAt B w rb R A ac C cc) (a b : Int) :
    Calls Try.prog 30 #[.pointer (some ⟨rb, 0, none⟩), .int .i64 a, .int .i64 b] w fun e w' => e = .returned (.bool (cutL R.cs a b)) ∧ Below w.heap.size w w' := by
  obtain ⟨n, hn⟩ : ∃ n, R.cs.length = n := ⟨_, rfl⟩
  have HR := Lib.hid h
  have HN := Lib.hid hn
  have hn2 : n ≤ 1000 := by rw [← hn]; exact h.few
  have c2 := h.cel.cell (j := 2) rfl
  rw [hn] at c2
  obtain ⟨ans, hans⟩ : ∃ x, cutL R.cs a b = x := ⟨_, rfl⟩
  have HANS := Lib.hid hans
  rw [hans]
  clear h hn hans
  go_enter Try.func30, Try.ntmps30
  go_wp2_with fail
  go_loopw [7] (fun i wr => ∃ k : Nat, k ≤ n ∧ i = .int .i64 (k : Int) ∧ Hid (cutL (R.cs.take k) a b = false) ∧ Hid (Below w.heap.size w wr)) (fun i _ => n - (intOf i).toNat)
  case atStart => exact ⟨0, Nat.zero_le _, rfl, Lib.hid rfl, Lib.hid (Below.refl _ _)⟩
  case round =>
    obtain ⟨k, hk, rfl, HK, HB⟩ := hrel
    have c2r := (HB.out.cell (block_of_cell c2)).trans c2
    by_cases hkn : k < n
    · have hkl : k < R.cs.length := by rw [HN.out]; exact hkn
      obtain ⟨⟨p, q⟩, hp⟩ : ∃ c, R.cs[k]? = some c := ⟨_, List.getElem?_eq_getElem hkl⟩
      obtain ⟨g, rfl, hr, hg1, hg2⟩ := row_at (k := k) (v := prV (p, q)) (vs := R.cs.map prV) (by rw [List.length_map]; exact HR.out.rowC) (fit_prs _) (by rw [List.getElem?_map, hp]; rfl)
      have hrr : wr.rangeAt g (k * 2) (prV (p, q)) := range_only hr (Only.of_below (S := fun _ => False) HB.out) fun e => e
      have x0 := hrr 0 _ rfl
      rw [Nat.add_zero] at x0
      have x1 := hrr 1 _ rfl
      dsimp only at x0 x1
      have HT : Hid (cutL (R.cs.take (k + 1)) a b = hitC a b (p, q)) := Lib.hid (by
        unfold cutL
        obtain ⟨h1, h2⟩ := List.getElem?_eq_some_iff.1 hp
        rw [List.take_succ_eq_append_getElem hkl, List.any_append, h2]
        have := HK.out
        unfold cutL at this
        rw [this]
        simp)
      have HU : Hid (cutL (R.cs.take (k + 1)) a b = true → ans = true) := Lib.hid (fun h => by
        rw [← HANS.out]
        unfold cutL at h ⊢
        obtain ⟨c, hc, h2⟩ := List.any_eq_true.1 h
        exact List.any_eq_true.2 ⟨c, List.mem_of_mem_take hc, h2⟩)
      have HB2 := Lib.hid (HB.out.trans ((below_alloc wr (.cells #[.int .i64 p, .int .i64 q] 76)).mono HB.out.size))
      have HH : Hid (hitC a b (p, q) = ((decide (p = a) && decide (q = b)) || (decide (p = b) && decide (q = a)))) := Lib.hid rfl
      obtain ⟨y1, e1⟩ : ∃ x, decide (p = a) = x := ⟨_, rfl⟩
      obtain ⟨y2, e2⟩ : ∃ x, decide (q = b) = x := ⟨_, rfl⟩
      obtain ⟨y3, e3⟩ : ∃ x, decide (p = b) = x := ⟨_, rfl⟩
      obtain ⟨y4, e4⟩ : ∃ x, decide (q = a) = x := ⟨_, rfl⟩
      rw [e1, e2, e3, e4] at HH
      have f1 : (p == a) = y1 := by rw [← e1]; rfl
      have f2 : (q == b) = y2 := by rw [← e2]; rfl
      have f3 : (p == b) = y3 := by rw [← e3]; rfl
      have f4 : (q == a) = y4 := by rw [← e4]; rfl
      clear hkl hp hr hg1 hg2 hrr e1 e2 e3 e4 HK HR
      cases hyy : ((y1 && y2) || (y3 && y4)) with
      | true =>
        have HYES : Hid (ans = true) := Lib.hid (HU.out (by rw [HT.out, HH.out, hyy]))
        clear HT HU HH
        cases y1 <;> cases y2 <;> cases y3 <;> cases y4 <;> first | (exact absurd hyy (by decide)) | skip
        all_goals
          clear hyy
          go_wp2_with fail
          go_returns
          exact ⟨ret_bool HYES.out, HB2.out⟩
      | false =>
        have HNO : Hid (cutL (R.cs.take (k + 1)) a b = false) := Lib.hid (by rw [HT.out, HH.out, hyy])
        clear HT HU HH
        cases y1 <;> cases y2 <;> cases y3 <;> cases y4 <;> first | (exact absurd hyy (by decide)) | skip
        all_goals
          clear hyy
          go_wp2_with fail
          go_roundw
          case rel => exact ⟨k + 1, by omega, by go_num, HNO, HB2⟩
          case measure => simp [intOf]; omega
    · obtain rfl : k = n := by omega
      have HNO : Hid (ans = false) := Lib.hid (by
        rw [← HANS.out]
        have h1 := HK.out
        rw [List.take_of_length_le (by rw [HN.out]; exact Nat.le_refl _)] at h1
        exact h1)
      go_wp2_with fail
      go_returns
      exact ⟨ret_bool HNO.out, HB.out⟩
/-- A row of pairs of the call's own. -/
def PrRow (B : Nat) (w : World) (v : Value) (l : List (Int × Int)) : Prop := w.ownsRow B 76 2 v l.length (l.map prV).flatten
theorem PrRow.later {B : Nat} {w w' : World} {v : Value} {l : List (Int × Int)} (h : PrRow B w v l) (hb : Below w.heap.size w w') : PrRow B w' v l := own_later h hb
theorem PrRow.more {B : Nat} {w : World} {V : Option Addr} {n vc : Nat} {l : List (Int × Int)} (h : PrRow B w (.slice V n vc) l) (p q : Int) (hB : B ≤ w.heap.size) (hl : l.length ≤ 2000) :
    ∃ V' n' vc' w', (Builtin.append_ #[49, 49] 49 #[.slice V n vc, .slice (some ⟨w.heap.size, 0, none⟩) 1 1]).run Try.prog (w.alloc (.cells #[.int .i64 p, .int .i64 q] 76)) = .ok (.slice V' n' vc') w' ∧ PrRow B w' (.slice V' n' vc') (l ++ [(p, q)]) ∧ Below B w w' := by
  obtain ⟨wd, hwd⟩ : ∃ W, W = w.alloc (.cells #[.int .i64 p, .int .i64 q] 76) := ⟨_, rfl⟩
  have hbd : Below w.heap.size w wd := by rw [hwd]; exact below_alloc _ _
  have hnew : Cells wd w.heap.size 76 (prV (p, q)) := by rw [hwd]; exact cells_new w 76 (prV (p, q)) _ rfl
  have hd := h.later hbd
  have hsl : Sl wd (some ⟨w.heap.size, 0, none⟩) 2 [prV (p, q)] := cells_sl (by simpa using hnew) fun v hv => by rw [List.mem_singleton.1 hv]; rfl
  obtain ⟨v', w5, hrun, hrow, hg, hnb⟩ := run_append_rows el_pr wd 49 B (.slice V n vc) (l.map prV) [prV (p, q)] (some ⟨w.heap.size, 0, none⟩) 1 (fit_prs _) ⟨fun v hv => by rw [List.mem_singleton.1 hv]; rfl, (fit_prs [(p, q)]).one⟩
    (by rw [List.length_map]; exact hd) hsl (fun e => by cases e) (by simp; omega) (by have := hbd.size; omega)
  obtain ⟨V', vc', rfl⟩ := row_slice hrow
  rw [show l.map prV ++ [prV (p, q)] = (l ++ [(p, q)]).map prV by simp] at hrow hrun hnb
  rw [← hwd]
  refine ⟨V', _, vc', w5, hrun, ?_, (hbd.mono hB).trans ((Only.of_grown hg).below (by have := hbd.size; omega) fun k e => (hd.lt k e.symm).1)⟩
  unfold PrRow
  rw [List.length_map] at hrow ⊢
  exact hrow
/-- A way is cut, or whole. -/
def setR (R : Rf) (a b : Int) (v : Bool) : Rf := { R with cs := R.cs.filter (fun c => !hitC a b c) ++ (if v then [(a, b)] else []) }
set_option maxHeartbeats 1000000 in
theorem Set_any {B rb ac cc : Nat} {R : Rf} {A C : Option Addr} {w : World} (h : RefAt B w rb R A ac C cc) (a b : Int) (v : Bool) (hB : B ≤ w.heap.size) (hfew : R.cs.length ≤ 900) :
    Calls Try.prog 19 #[.pointer (some ⟨rb, 0, none⟩), .int .i64 a, .int .i64 b, .bool v] w fun e w' => e = .returned (.int .i64 (if betw R.nodes a b then 0 else 1)) ∧ RStep B rb A C w (if betw R.nodes a b then setR R a b v else R) w' := by
  have HRT := Lib.hid (right_any a b R.nodes rb w (h.cel.cell (j := 0) rfl))
  have HR := Lib.hid h
  have HBB := Lib.hid hB
  have c2 := h.cel.cell (j := 2) rfl
  obtain ⟨n, hn⟩ : ∃ n, R.cs.length = n := ⟨_, rfl⟩
  have HN := Lib.hid hn
  rw [hn] at c2 hfew
  cases hbt : betw R.nodes a b with
  | false =>
    rw [hbt] at HRT
    simp only [Bool.false_eq_true, if_false]
    clear h hB hn hbt
    go_enter Try.func19, Try.ntmps19
    go_wp2_with fail
    refine HRT.out.mono ?_
    rintro e w1 ⟨rfl, rfl⟩
    go_wp2_with fail
    go_returns
    exact ⟨rfl, RStep.same HR.out (Below.refl _ _)⟩
  | true =>
    rw [hbt] at HRT
    simp only [if_true]
    obtain ⟨wa, hwa⟩ : ∃ W, W = w.alloc (.cells #[] 76) := ⟨_, rfl⟩
    have hba : Below w.heap.size w wa := by rw [hwa]; exact below_alloc _ _
    have HST : Hid (PrRow w.heap.size wa (.slice (some ⟨w.heap.size, 0, none⟩) 0 0) []) := Lib.hid (by rw [hwa]; exact World.ownsRow_made (base := w.heap.size) w #[] 0 (Nat.le_refl _) (Nat.zero_le _) rfl)
    have HBA := Lib.hid hba
    clear h hB hn hbt hba
    go_enter Try.func19, Try.ntmps19
    go_wp2_with fail
    refine HRT.out.mono ?_
    rintro e w1 ⟨rfl, rfl⟩
    clear HRT
    go_wp2_with fail
    rw [← hwa]
    clear hwa
    go_loopw [9, 10] (fun x i wr => ∃ (k : Nat) (V : Option Addr) (vn vc : Nat), k ≤ n ∧ i = .int .i64 (k : Int) ∧ x = .slice V vn vc ∧ Hid (PrRow w1.heap.size wr (.slice V vn vc) ((R.cs.take k).filter (fun c => !hitC a b c))) ∧ Hid (Below w1.heap.size w1 wr)) (fun _ i _ => n - (intOf i).toNat)
    case atStart => exact ⟨0, _, 0, 0, Nat.zero_le _, rfl, rfl, HST, HBA⟩
    case round =>
      clear HST HBA
      obtain ⟨k, V, vn, vc, hk, rfl, rfl, HP, HB⟩ := hrel
      have c2r := (HB.out.cell (block_of_cell c2)).trans c2
      by_cases hkn : k < n
      · have hkl : k < R.cs.length := by rw [HN.out]; exact hkn
        obtain ⟨⟨p, q⟩, hp⟩ : ∃ c, R.cs[k]? = some c := ⟨_, List.getElem?_eq_getElem hkl⟩
        obtain ⟨g, rfl, hr, hg1, hg2⟩ := row_at (k := k) (v := prV (p, q)) (vs := R.cs.map prV) (by rw [List.length_map]; exact HR.out.rowC) (fit_prs _) (by rw [List.getElem?_map, hp]; rfl)
        have hrr : wr.rangeAt g (k * 2) (prV (p, q)) := range_only hr (Only.of_below (S := fun _ => False) HB.out) fun e => e
        have x0 := hrr 0 _ rfl
        rw [Nat.add_zero] at x0
        have x1 := hrr 1 _ rfl
        dsimp only at x0 x1
        have HT : Hid ((R.cs.take (k + 1)).filter (fun c => !hitC a b c) = (R.cs.take k).filter (fun c => !hitC a b c) ++ (if hitC a b (p, q) then [] else [(p, q)])) := Lib.hid (by
          obtain ⟨h1, h2⟩ := List.getElem?_eq_some_iff.1 hp
          rw [List.take_succ_eq_append_getElem hkl, List.filter_append, h2]
          congr 1
          cases hhc : hitC a b (p, q) <;> simp [hhc])
        have hfl : ((R.cs.take k).filter (fun c => !hitC a b c)).length ≤ 900 := Nat.le_trans (List.length_filter_le _ _) (by rw [List.length_take]; omega)
        obtain ⟨we, hwe⟩ : ∃ W, W = wr.alloc (.cells #[.int .i64 p, .int .i64 q] 76) := ⟨_, rfl⟩
        have hbe : Below wr.heap.size wr we := by rw [hwe]; exact below_alloc _ _
        have hce : Cells we wr.heap.size 76 [.int .i64 p, .int .i64 q] := by rw [hwe]; exact cells_new _ _ _ _ rfl
        have y0 := hce.cell (j := 0) rfl
        have y1 := hce.cell (j := 1) rfl
        have HB2 := Lib.hid (HB.out.trans (hbe.mono HB.out.size))
        have HP2 := Lib.hid (HP.out.later hbe)
        obtain ⟨V', vn', vc', wu, hrun, hrow, hbu⟩ := HP2.out.more p q HB2.out.size (by omega)
        have HRUN := Lib.hid hrun
        have HROW := Lib.hid hrow
        have HBU := Lib.hid (HB2.out.trans hbu)
        have HH : Hid (hitC a b (p, q) = ((decide (p = a) && decide (q = b)) || (decide (p = b) && decide (q = a)))) := Lib.hid rfl
        obtain ⟨y1', e1⟩ : ∃ x, decide (p = a) = x := ⟨_, rfl⟩
        obtain ⟨y2', e2⟩ : ∃ x, decide (q = b) = x := ⟨_, rfl⟩
        obtain ⟨y3', e3⟩ : ∃ x, decide (p = b) = x := ⟨_, rfl⟩
        obtain ⟨y4', e4⟩ : ∃ x, decide (q = a) = x := ⟨_, rfl⟩
        rw [e1, e2, e3, e4] at HH
        have f1 : (p == a) = y1' := by rw [← e1]; rfl
        have f2 : (q == b) = y2' := by rw [← e2]; rfl
        have f3 : (p == b) = y3' := by rw [← e3]; rfl
        have f4 : (q == a) = y4' := by rw [← e4]; rfl
        clear hkl hp hr hg1 hg2 hrr e1 e2 e3 e4 hbe hce hrun hrow hbu
        cases hyy : ((y1' && y2') || (y3' && y4')) with
        | true =>
          have HNX : Hid (PrRow w1.heap.size we (.slice V vn vc) ((R.cs.take (k + 1)).filter (fun c => !hitC a b c))) := Lib.hid (by rw [HT.out, HH.out, hyy, if_pos rfl, List.append_nil]; exact HP2.out)
          clear HT HH
          cases y1' <;> cases y2' <;> cases y3' <;> cases y4' <;> first | (exact absurd hyy (by decide)) | skip
          all_goals
            clear hyy
            go_upto_region 8 with (fail)
            rw [← hwe]
            clear hwe x0 x1
            go_wp2_with fail
            go_roundw
            case rel => exact ⟨k + 1, V, vn, vc, by omega, by go_num, rfl, HNX, HB2⟩
            case measure => simp [intOf]; omega
        | false =>
          have HNX : Hid (PrRow w1.heap.size wu (.slice V' vn' vc') ((R.cs.take (k + 1)).filter (fun c => !hitC a b c))) := Lib.hid (by rw [HT.out, HH.out, hyy]; exact HROW.out)
          clear HT HH
          cases y1' <;> cases y2' <;> cases y3' <;> cases y4' <;> first | (exact absurd hyy (by decide)) | skip
          all_goals
            clear hyy
            go_upto_region 8 with (fail)
            rw [← hwe]
            clear hwe x0 x1
            go_wp2_with (at_builtin
                         refine Lib.wpList_append_run (we.alloc (.cells #[.int .i64 p, .int .i64 q] 76)) rfl (.tmp 57) (.tmp 59) 49 49 rfl (.slice V vn vc) (.slice (some ⟨we.heap.size, 0, none⟩) 1 1) rfl rfl _ _ HRUN.out ?_)
            go_roundw
            case rel => exact ⟨k + 1, V', vn', vc', by omega, by go_num, rfl, HNX, HBU⟩
            case measure => simp [intOf]; omega
      · obtain rfl : k = n := by omega
        have HPF : Hid (PrRow w1.heap.size wr (.slice V vn vc) (R.cs.filter (fun c => !hitC a b c))) := Lib.hid (by
          have h1 := HP.out
          rw [List.take_of_length_le (by rw [HN.out]; exact Nat.le_refl _)] at h1
          exact h1)
        have hfl : (R.cs.filter (fun c => !hitC a b c)).length ≤ 900 := Nat.le_trans (List.length_filter_le _ _) (by rw [HN.out]; exact hfew)
        cases v with
        | false =>
          have HFIN := Lib.hid (HR.out.newC HBB.out HB.out HPF.out (by omega))
          have f2 := (HR.out.later HB.out).cel.frozen (j := 2) (by simp)
          have HE : Hid (setR R a b false = { R with cs := R.cs.filter (fun c => !hitC a b c) }) := Lib.hid (by unfold setR; simp)
          go_wp2_with fail
          go_returns
          exact ⟨rfl, by rw [HE.out]; exact HFIN.out⟩
        | true =>
          obtain ⟨V', vn', vc', wu, hrun, hrow, hbu⟩ := HPF.out.more a b HB.out.size (by omega)
          have HRUN := Lib.hid hrun
          have hbw := HB.out.trans hbu
          have HFIN := Lib.hid (HR.out.newC HBB.out hbw hrow (by simp; omega))
          have c2u := (hbw.cell (block_of_cell c2)).trans c2
          have f2 := (HR.out.later hbw).cel.frozen (j := 2) (by simp)
          have HE : Hid (setR R a b true = { R with cs := R.cs.filter (fun c => !hitC a b c) ++ [(a, b)] }) := Lib.hid (by unfold setR; simp)
          clear hrun hrow hbu hbw
          go_wp2_with (at_builtin
                       refine Lib.wpList_append_run (wr.alloc (.cells #[.int .i64 a, .int .i64 b] 76)) rfl (.tmp 62) (.tmp 66) 49 49 rfl (.slice V vn vc) (.slice (some ⟨wr.heap.size, 0, none⟩) 1 1) rfl rfl _ _ HRUN.out ?_)
          go_returns
          exact ⟨rfl, by rw [HE.out]; exact HFIN.out⟩
end Go.Proofs.Ytfhcfiebhagbeaa.Net
