/-
  Layer 12, the document's wheel: Tick. Conditions: none.
-/
import Derived.Test.YtnbdgjaekjneaaaWhlSet
import Derived.Test.YtnbdgjaekjneaaaWhlSame
import Derived.Test.YtnbdgjaekjneaaaWhlPure
namespace Go.Proofs.Ytnbdgjaekjneaaa.Whl
set_option maxRecDepth 100000
open Go.RowKit Go.Deep Go.Proofs.Ytnbdgjaekjneaaa.Mem

/-- The time goes on, by the document. -/
def tickR (R : Wr) : List Ky × Wr :=
  if 1099511627776 ≤ R.now then ([], R)
  else ((R.l.filter fun t => decide (t.2 = R.now + 1)).map (·.1), ⟨R.now + 1, R.l.filter fun t => decide (t.2 ≠ R.now + 1)⟩)
theorem OwnG.more' {α : Type} {sT eT : TypeId} {zv : Value} {sz bytes : Nat} {vals : α → List Value} {l : List α} {B : Nat} {w : World} {V : Option Addr} {n vc : Nat} (E : Elem sT eT zv sz bytes) (hf : ∀ l : List α, Fit sz (l.map vals)) (h : OwnG eT sz vals B w (.slice V n vc) l) (p : α) (cells : Array Value) (hc : cells.toList = vals p) (hB : B ≤ w.heap.size) (hl : l.length ≤ 2000) :
    ∃ V' n' vc' w', (Builtin.append_ #[sT, sT] sT #[.slice V n vc, .slice (some ⟨w.heap.size, 0, none⟩) 1 1]).run Try.prog (w.alloc (.cells cells eT)) = .ok (.slice V' n' vc') w' ∧ OwnG eT sz vals B w' (.slice V' n' vc') (l ++ [p]) ∧ Only (fun k => some k = blk V) w w' ∧ ∀ k, blk V' = some k → some k = blk V ∨ w.heap.size ≤ k := by
  obtain ⟨wd, hwd⟩ : ∃ W, W = w.alloc (.cells cells eT) := ⟨_, rfl⟩
  have hbd : Below w.heap.size w wd := by rw [hwd]; exact below_alloc _ _
  have hnew : Cells wd w.heap.size eT (vals p) := by rw [hwd]; exact cells_new w eT (vals p) _ hc
  have hd := h.later hbd
  have hsl : Sl wd (some ⟨w.heap.size, 0, none⟩) sz ([p].map vals) := cells_sl (by simpa using hnew) fun v hv => (hf [p]).len v hv
  obtain ⟨v', w5, hrun, hrow, hg, hnb⟩ := run_append_rows E wd sT B (.slice V n vc) (l.map vals) ([p].map vals) (some ⟨w.heap.size, 0, none⟩) 1 (hf _) (hf [p])
    (by rw [List.length_map]; exact hd) hsl (fun e => by cases e) (by simp; omega) (by have := hbd.size; omega)
  obtain ⟨V', vc', rfl⟩ := row_slice hrow
  rw [← List.map_append] at hrow hrun hnb
  rw [← hwd]
  have ho := Only.of_grown hg
  rw [own_blk] at ho
  rw [own_blk, own_blk] at hnb
  refine ⟨V', _, vc', w5, hrun, ?_, (Only.of_below hbd).trans ho fun _ _ e => e, fun k e => ?_⟩
  · unfold OwnG
    rw [List.length_map] at hrow ⊢
    exact hrow
  · rcases hnb with e2 | e2
    · exact Or.inl (by rw [← e2, e])
    · have e3 : k = wd.heap.size := by rw [e] at e2; exact Option.some.inj e2
      have := hbd.size
      exact Or.inr (by omega)
theorem filter_mid {a b : List Tm} {x : Tm} (h : Uniq (a ++ x :: b)) : (a ++ x :: b).filter (fun y => decide (y.1 ≠ x.1)) = a ++ b := by
  unfold Uniq at h
  rw [List.map_append, List.map_cons, List.nodup_append] at h
  obtain ⟨_, h2, h3⟩ := h
  rw [List.filter_append, List.filter_cons, if_neg (by simp)]
  congr 1
  · exact List.filter_eq_self.2 fun y hy => decide_eq_true fun e => h3 _ (List.mem_map.2 ⟨y, hy, rfl⟩) _ List.mem_cons_self e
  · exact List.filter_eq_self.2 fun y hy => decide_eq_true fun e => (List.nodup_cons.1 h2).1 (List.mem_map.2 ⟨y, hy, e⟩)
def lenOf : Value → Nat
  | .slice _ n _ => n
  | _ => 0
def whTk7 (rb g ln ac ii : Nat) (t1 due : Int) : Nat → Value → World → Prop
  | 0, v, _ => v = .pointer (some ⟨rb, 0, none⟩)
  | 1, v, _ => v = .pointer (some ⟨rb, 0, none⟩)
  | 2, v, _ => v = .pointer (some ⟨rb, 1, none⟩)
  | 3, v, _ => v = .slice (some ⟨g, 0, none⟩) ln ac
  | 4, v, _ => v = .int .i64 (ii : Int)
  | 5, v, _ => v = .pointer (some ⟨g, ii * 7, none⟩)
  | 6, v, _ => v = .pointer (some ⟨g, ii * 7 + 6, none⟩)
  | 7, v, _ => v = .int .i64 due
  | 8, v, _ => v = .pointer (some ⟨rb, 0, none⟩)
  | 9, v, _ => v = .pointer (some ⟨rb, 0, none⟩)
  | 10, v, _ => v = .pointer (some ⟨rb, 0, none⟩)
  | 11, v, _ => v = .int .i64 t1
  | 12, v, _ => v = .bool (due == t1)
  | _, _, _ => True
set_option maxHeartbeats 2000000 in
theorem RTick_any {B rb ac : Nat} {w : World} {R : Wr} {A : Option Addr} (h : WrAt B w rb R A ac) (hB : B ≤ w.heap.size) (hu : Uniq R.l) (h0 : 0 ≤ R.now) :
    Calls Try.prog 17 #[.pointer (some ⟨rb, 0, none⟩)] w fun e w' => ∃ v, e = .returned v ∧ OwnG 41 6 Ky.vals w.heap.size w' v (tickR R).1 ∧ WStep B rb A w (tickR R).2 w' := by
  have c0 := h.cel.cell (j := 0) rfl
  have HW := Lib.hid h
  have HBW := Lib.hid hB
  obtain ⟨t, ht⟩ : ∃ t, R.now = t := ⟨_, rfl⟩
  have HT := Lib.hid ht
  by_cases hmax : 1099511627776 ≤ R.now
  · have e0 : tickR R = ([], R) := if_pos hmax
    rw [e0]
    rw [ht] at c0 hmax
    clear e0 h hu h0 ht hB
    go_enter Try.func17, Try.ntmps17
    go_wp2_with fail
    go_returns
    exact ⟨_, rfl, OwnG.nil _ _ _ _ _, WxStep.same HW.out (Below.refl _ _)⟩
  · obtain ⟨f1, f2, f3, f4⟩ := h.time (t + 1)
    obtain ⟨l0, hl0⟩ : ∃ l, R.l = l := ⟨_, rfl⟩
    have e0 : tickR R = ((l0.filter fun x => decide (x.2 = t + 1)).map (·.1), ⟨t + 1, l0.filter fun x => decide (x.2 ≠ t + 1)⟩) := by
      unfold tickR
      rw [if_neg hmax, ht, hl0]
    rw [e0]
    have hn256 : l0.length ≤ 256 := by rw [← hl0]; exact h.len
    obtain ⟨wt, hwt⟩ : ∃ W, W = w.setCell ⟨rb, 0, none⟩ (.int .i64 (t + 1)) := ⟨_, rfl⟩
    rw [← hwt] at f3 f4
    have hw1 : IntKind.i64.wrap (t + 1) = t + 1 := by rw [IntKind.wrap_i64]; omega
    obtain ⟨n, hn⟩ : ∃ n, l0.length = n := ⟨_, rfl⟩
    rw [hn] at hn256
    obtain ⟨wz, hwz⟩ : ∃ W, W = wt.alloc (.cells #[] 41) := ⟨_, rfl⟩
    have hbz : Below wt.heap.size wt wz := by rw [hwz]; exact below_alloc _ _
    have hszt : wt.heap.size = w.heap.size := by rw [hwt]; exact World.size_setCell _ _ _
    have HOW : Hid (OwnG 41 6 Ky.vals w.heap.size wz (.slice (some ⟨w.heap.size, 0, none⟩) 0 0) []) := Lib.hid (by
      rw [hwz, ← hszt]
      exact World.ownsRow_made (base := wt.heap.size) wt #[] 0 (Nat.le_refl _) (Nat.zero_le _) (by simp))
    have hrz := f3.later hbz
    have HRZ : Hid (WrAt B wz rb ⟨t + 1, l0⟩ A ac) := Lib.hid (by rw [← hl0]; exact hrz)
    have HOZ : Hid (Only (wfoot rb A) w wz) := Lib.hid (f4.trans (S' := fun _ => False) (Only.of_below hbz) fun _ _ e => e.elim)
    obtain ⟨Lf, hLf⟩ : ∃ X, (l0.filter fun x => decide (x.2 ≠ t + 1)) = X := ⟨_, rfl⟩
    obtain ⟨Kf, hKf⟩ : ∃ X, (l0.filter fun x => decide (x.2 = t + 1)).map (·.1) = X := ⟨_, rfl⟩
    rw [hLf, hKf]
    have HLF := Lib.hid hLf
    have HKF := Lib.hid hKf
    have HU : Hid (Uniq l0) := Lib.hid (by rw [← hl0]; exact hu)
    have HA : Hid (blk A ≠ some w.heap.size) := Lib.hid (fun e => by
      have := (h.row.lt _ (by rw [own_blk]; exact e)).2
      omega)
    have HZ : Hid (wt.heap.size = w.heap.size) := Lib.hid hszt
    rw [ht] at c0 hmax h0
    have HN := Lib.hid hn
    clear e0 h hu ht hl0 hn f1 f3 f4 hrz hbz hB hszt hLf hKf
    go_enter Try.func17, Try.ntmps17
    go_upto_region 5 with (fail)
    rw [← hwt, ← hwz]
    clear hwt hwz c0 f2 hw1
    go_wp2_with fail
    go_loopw [3, 4] (fun x i wr => ∃ (j ii : Nat) (L : List Tm) (o : List Ky) (A1 : Option Addr) (c1 : Nat) (Vo : Option Addr) (vn vc : Nat), j ≤ n ∧ vn + ii = j ∧ i = .int .i64 (ii : Int) ∧ x = .slice Vo vn vc ∧ Hid (L = ((l0.take j).filter fun x => decide (x.2 ≠ t + 1)) ++ l0.drop j ∧ ii = ((l0.take j).filter fun x => decide (x.2 ≠ t + 1)).length ∧ o = ((l0.take j).filter fun x => decide (x.2 = t + 1)).map (·.1) ∧ vn = o.length) ∧ Hid (WrAt B wr rb ⟨t + 1, L⟩ A1 c1) ∧ Hid (Only (wfoot rb A) w wr) ∧ Hid (∀ k, some k = blk A1 → some k = blk A ∨ w.heap.size ≤ k) ∧ Hid (OwnG 41 6 Ky.vals w.heap.size wr (.slice Vo vn vc) o) ∧ Hid (∀ k, blk Vo = some k → blk A1 ≠ some k)) (fun x i _ => n - (lenOf x + (intOf i).toNat))
    case atStart =>
      exact ⟨0, 0, l0, [], A, ac, some ⟨w.heap.size, 0, none⟩, 0, 0, Nat.zero_le _, rfl, rfl, rfl, Lib.hid ⟨rfl, rfl, rfl, rfl⟩, HRZ, HOZ, Lib.hid (fun k e => Or.inl e), HOW, Lib.hid (fun k e1 e2 => HA.out (e2.trans e1.symm))⟩
    case round =>
      obtain ⟨j, ii, L, o, A1, c1, Vo, vn, vc, hjn, hvi, rfl, rfl, HP, HR, HO, HG, HOWN, HVA⟩ := hrel
      obtain ⟨ln, hln⟩ : ∃ ln, L.length = ln := ⟨_, rfl⟩
      have hll : ln = ii + (n - j) := by
        obtain ⟨p1, p2, _⟩ := HP.out
        rw [← hln, p1, List.length_append, ← p2, List.length_drop, HN.out]
      have c1' := HR.out.cel.cell (j := 1) rfl
      dsimp only at c1'
      rw [hln] at c1'
      by_cases hlt : j < n
      · have hjl : j < l0.length := by rw [HN.out]; exact hlt
        obtain ⟨⟨ky, due⟩, hx⟩ : ∃ x, l0[j] = x := ⟨_, rfl⟩
        have HD : Hid (l0.drop j = (ky, due) :: l0.drop (j + 1)) := Lib.hid (by rw [List.drop_eq_getElem_cons hjl, hx])
        have HTK : Hid (l0.take (j + 1) = l0.take j ++ [(ky, due)]) := Lib.hid (by rw [List.take_succ_eq_append_getElem hjl, hx])
        have hLi : L[ii]? = some (ky, due) := by
          obtain ⟨p1, p2, _⟩ := HP.out
          rw [p1, HD.out, List.getElem?_append_right (by omega), p2, Nat.sub_self]
          rfl
        have hil : ii < ln := by omega
        obtain ⟨g, rfl, hrg⟩ := HR.out.at hLi
        have HR1 : Hid (∀ wi, Below wr.heap.size wr wi → wi.cell? ⟨rb, 1, none⟩ = some (.slice (some ⟨g, 0, none⟩) ln c1)) := Lib.hid fun wi hb => by
          have h1 := (HR.out.later hb).cel.cell (j := 1) rfl
          dsimp only at h1
          rw [hln] at h1
          exact h1
        have HR0 : Hid (∀ wi, Below wr.heap.size wr wi → wi.cell? ⟨rb, 0, none⟩ = some (.int .i64 (t + 1))) := Lib.hid fun wi hb => (HR.out.later hb).cel.cell (j := 0) rfl
        have HT0 : Hid (∀ wi, Below wr.heap.size wr wi → wi.cell? ⟨g, ii * 7 + 6, none⟩ = some (.int .i64 due)) := Lib.hid fun wi hb => range_later hrg hb 6 _ rfl
        have HI := Lib.hid hil
        have HLI := Lib.hid hLi
        have HLN := Lib.hid hln
        have HHL := Lib.hid hll
        obtain ⟨b, hb⟩ : ∃ b, (due == t + 1) = b := ⟨_, rfl⟩
        have HBQ := Lib.hid hb
        clear hjl hx hLi hrg hln hll
        go_upto_region 7 with (fail)
        clear c1'
        refine Reg.region_heavy (by kernel_rfl) 12 [12] (whTk7 rb g ln c1 ii (t + 1) due) (fun a => Below wr.heap.size wr a) (fun a => Below wr.heap.size wr a) (fun V => [(some 25, V 0), (some 26, V 1), (some 27, V 2), (some 28, V 3), (some 29, V 4), (some 30, V 5), (some 31, V 6), (some 32, V 7), (some 33, V 8), (some 34, V 9), (some 35, V 10), (some 36, V 11), (some 37, V 12)]) (by kernel_rfl) (by kernel_rfl) (by kernel_rfl) (fun V => rfl) ?_ ?_ ?_
        · exact (Below.refl _ _).drew
        · intro i o ho
          have hi : i < 13 := (Array.getElem?_eq_some_iff.1 ho).1
          rcases i with _ | _ | _ | _ | _ | _ | _ | _ | _ | _ | _ | _ | _ | i
          rotate_right
          · omega
          all_goals obtain rfl := Option.some.inj ho
          all_goals intro ρ wi hE hI hs hd
          all_goals try dsimp only at hI
          · have e0 : ρ (.tmp 0) = .pointer (some ⟨rb, 0, none⟩) := hs 0; exact Reg.gw hI
          · obtain ⟨_, rfl, e25⟩ := hd 0 25; exact Reg.gw hI
          · obtain ⟨_, rfl, e26⟩ := hd 1 26; exact Reg.gw hI
          · obtain ⟨_, rfl, e27⟩ := hd 2 27; have x0 := HR1.out _ hI; exact Reg.gw hI
          · have e4 : ρ (.tmp 4) = .int .i64 (ii : Int) := hs 4; exact Reg.gw hI
          · obtain ⟨_, rfl, e28⟩ := hd 3 28; obtain ⟨_, rfl, e29⟩ := hd 4 29
            have z1 : (0 : Int) ≤ (ii : Int) := by omega
            have z2 : (ii : Int) < (ln : Int) := by have := HI.out; omega
            have z3 : ii < ln := HI.out; exact Reg.gw hI
          · obtain ⟨_, rfl, e30⟩ := hd 5 30; exact Reg.gw hI
          · obtain ⟨_, rfl, e31⟩ := hd 6 31; have x0 := HT0.out _ hI; exact Reg.gw hI
          · have e0 : ρ (.tmp 0) = .pointer (some ⟨rb, 0, none⟩) := hs 0; exact Reg.gw hI
          · obtain ⟨_, rfl, e33⟩ := hd 8 33; exact Reg.gw hI
          · obtain ⟨_, rfl, e34⟩ := hd 9 34; exact Reg.gw hI
          · obtain ⟨_, rfl, e35⟩ := hd 10 35; have x0 := HR0.out _ hI; exact Reg.gw hI
          · obtain ⟨_, rfl, e32⟩ := hd 7 32; obtain ⟨_, rfl, e36⟩ := hd 11 36; exact Reg.gw hI
        · intro V wf hV hI
          have hV12 : V 12 = .bool (due == (t + 1)) := hV 12 (by decide) rfl
          simp only [Reg.putsO, List.foldl_cons, List.foldl_nil, Act.put, List.setIfInBounds_toArray, List.set_cons_succ, List.set_cons_zero, hV12]
          replace hI : (fun a => Below wr.heap.size wr a) wf := hI
          clear hV hV12
          rw [hb]
          clear hb HT0
          have hR := HR.out.later hI
          have HRF := Lib.hid hR
          have HOF : Hid (Only (wfoot rb A) w wf) := Lib.hid (HO.out.trans (S' := fun _ => False) (Only.of_below hI) fun _ _ e => e.elim)
          have HWF := Lib.hid (HOWN.out.later hI)
          have x1 := HR1.out wf hI
          obtain ⟨g', eg, hrg⟩ := hR.at HLI.out
          obtain rfl : g = g' := by simpa using eg
          have y0 := hrg 0 _ rfl
          rw [Nat.add_zero] at y0
          have y1 := hrg 1 _ rfl
          have y2 := hrg 2 _ rfl
          have y3 := hrg 3 _ rfl
          have y4 := hrg 4 _ rfl
          have y5 := hrg 5 _ rfl
          dsimp only [Tm.vals] at y0 y1 y2 y3 y4 y5
          clear hI HR1 HR0 hR eg hrg HR HO HOWN
          cases b with
          | false =>
            have HP2 : Hid (L = ((l0.take (j + 1)).filter fun x => decide (x.2 ≠ t + 1)) ++ l0.drop (j + 1) ∧ ii + 1 = ((l0.take (j + 1)).filter fun x => decide (x.2 ≠ t + 1)).length ∧ o = ((l0.take (j + 1)).filter fun x => decide (x.2 = t + 1)).map (·.1) ∧ vn = o.length) := Lib.hid (by
              obtain ⟨p1, p2, p3, p4⟩ := HP.out
              have hne : ¬ due = t + 1 := by simpa using HBQ.out
              rw [HTK.out, List.filter_append, List.filter_append, show ([(ky, due)] : List Tm).filter (fun x => decide (x.2 ≠ t + 1)) = [(ky, due)] by simp [hne], show ([(ky, due)] : List Tm).filter (fun x => decide (x.2 = t + 1)) = [] by simp [hne]]
              refine ⟨by rw [p1, HD.out, List.append_assoc]; rfl, by rw [List.length_append, ← p2]; rfl, by rw [List.append_nil]; exact p3, p4⟩)
            clear y0 y1 y2 y3 y4 y5 x1
            go_wp2_with fail
            go_roundw
            case rel => exact ⟨j + 1, ii + 1, L, o, some ⟨g, 0, none⟩, c1, Vo, vn, vc, by omega, by omega, by go_num, rfl, HP2, HRF, HOF, HG, HWF, HVA⟩
            case measure => simp [intOf, lenOf]; omega
          | true =>
            have HP2 : Hid ((L.filter fun y => decide (y.1 ≠ ky)) = ((l0.take (j + 1)).filter fun x => decide (x.2 ≠ t + 1)) ++ l0.drop (j + 1) ∧ ii = ((l0.take (j + 1)).filter fun x => decide (x.2 ≠ t + 1)).length ∧ o ++ [ky] = ((l0.take (j + 1)).filter fun x => decide (x.2 = t + 1)).map (·.1) ∧ vn + 1 = (o ++ [ky]).length) := Lib.hid (by
              obtain ⟨p1, p2, p3, p4⟩ := HP.out
              have he : due = t + 1 := by simpa using HBQ.out
              rw [HTK.out, List.filter_append, List.filter_append, show ([(ky, due)] : List Tm).filter (fun x => decide (x.2 ≠ t + 1)) = [] by simp [he], show ([(ky, due)] : List Tm).filter (fun x => decide (x.2 = t + 1)) = [(ky, due)] by simp [he]]
              refine ⟨?_, by rw [List.append_nil]; exact p2, by rw [List.map_append, ← p3]; rfl, by rw [List.length_append, ← p4]; rfl⟩
              have hq : Uniq (((l0.take j).filter fun x => decide (x.2 ≠ t + 1)) ++ (ky, due) :: l0.drop (j + 1)) := by
                rw [← HD.out]
                refine List.Nodup.sublist (List.Sublist.map _ ?_) HU.out
                conv => rhs; rw [← List.take_append_drop j l0]
                exact List.Sublist.append List.filter_sublist (List.Sublist.refl _)
              rw [p1, HD.out, List.append_nil]
              exact filter_mid hq)
            have HUL : Hid (Uniq L) := Lib.hid (by
              obtain ⟨p1, _⟩ := HP.out
              rw [p1]
              refine List.Nodup.sublist (List.Sublist.map _ ?_) HU.out
              conv => rhs; rw [← List.take_append_drop j l0]
              exact List.Sublist.append List.filter_sublist (List.Sublist.refl _))
            have hbw : w.heap.size ≤ wf.heap.size := HOF.out.size
            have hol : o.length ≤ 2000 := by have := HP.out.2.2.2; omega
            obtain ⟨V2, n2, vc2, wu, hrun, hrow, hou, hgu⟩ := OwnG.more' el_key fit_ks HWF.out ky #[.int .i64 ky.kind, .int .i64 ky.cell, .int .i64 ky.node, .int .i64 ky.tn, .int .i64 ky.te, .int .i64 ky.ts] rfl hbw hol
            have HRUN := Lib.hid hrun
            have HROW := Lib.hid hrow
            have hn2 : n2 = vn + 1 := (OwnG.sl fit_ks hrow).1.trans HP2.out.2.2.2.symm
            subst hn2
            have HRU : Hid (WrAt B wu rb ⟨t + 1, L⟩ (some ⟨g, 0, none⟩) c1) := Lib.hid (HRF.out.only hou (fun e => by
              have h1 := (HWF.out.lt rb (by rw [own_blk]; exact e.symm)).1
              have h2 := HW.out.cel.lt
              omega) fun k hk e => by
              rw [own_blk] at hk
              exact HVA.out k e.symm hk)
            have HVU : Hid (∀ k, blk V2 = some k → blk (some ⟨g, 0, none⟩) ≠ some k) := Lib.hid fun k hk e => by
              rcases hgu k hk with e2 | e2
              · exact HVA.out k e2.symm e
              · have h1 := (HRF.out.row.lt k (by rw [own_blk]; exact e)).2
                omega
            have HOU : Hid (Only (wfoot rb A) w wu) := Lib.hid (HOF.out.trans2 hou fun k e => (HWF.out.lt k (by rw [own_blk]; exact e.symm)).1)
            have hru := HRU.out
            have z1 := hru.cel.cell (j := 1) rfl
            dsimp only at z1
            rw [HLN.out] at z1
            obtain ⟨g2, eg2, hrg2⟩ := hru.at HLI.out
            obtain rfl : g = g2 := by simpa using eg2
            have v0 := hrg2 0 _ rfl
            rw [Nat.add_zero] at v0
            have v1 := hrg2 1 _ rfl
            have v2 := hrg2 2 _ rfl
            have v3 := hrg2 3 _ rfl
            have v4 := hrg2 4 _ rfl
            have v5 := hrg2 5 _ rfl
            dsimp only [Tm.vals] at v0 v1 v2 v3 v4 v5
            have hS := RStop_any hru ky (Nat.le_trans HBW.out HOU.out.size)
            rw [stopR_filter (R := ⟨t + 1, L⟩) HUL.out ky] at hS
            have HS := Lib.hid hS
            unfold Ky.val at HS
            have hi0 : (0 : Int) ≤ (ii : Int) := by omega
            have hi1 : (ii : Int) < (ln : Int) := by have := HI.out; omega
            have hi2 : ii < ln := HI.out
            clear hru eg2 hrg2 hS hrun hrow hou hgu hbw hol
            go_wp2_with (at_builtin
                         refine Lib.wpList_append_run (wf.alloc (.cells #[.int .i64 ky.kind, .int .i64 ky.cell, .int .i64 ky.node, .int .i64 ky.tn, .int .i64 ky.te, .int .i64 ky.ts] 41)) rfl (.tmp 38) (.tmp 47) 45 45 rfl (.slice Vo vn vc) (.slice (some ⟨wf.heap.size, 0, none⟩) 1 1) rfl rfl _ _ HRUN.out ?_)
            refine HS.out.mono ?_
            rintro e ws ⟨rfl, hst⟩
            obtain ⟨A2, c2, k1, k2, k3⟩ := hst
            have HR2 := Lib.hid k1
            have HO2 : Hid (Only (wfoot rb A) w ws) := Lib.hid (HOU.out.trans k2 fun k hk e => by
              rcases e with e | e
              · exact Or.inl e
              · rcases HG.out k e with e2 | e2
                · exact Or.inr e2
                · omega)
            have HG2 : Hid (∀ k, some k = blk A2 → some k = blk A ∨ w.heap.size ≤ k) := Lib.hid fun k e => by
              rcases k3 k e with e2 | e2
              · exact HG.out k e2
              · exact Or.inr (Nat.le_trans HOU.out.size e2)
            have HW2 : Hid (OwnG 41 6 Ky.vals w.heap.size ws (.slice V2 (vn + 1) vc2) (o ++ [ky])) := Lib.hid (row_only HROW.out k2 fun k hk e => by
              rw [own_blk] at hk
              rcases e with e | e
              · have h1 := (HROW.out.lt k (by rw [own_blk]; exact hk)).1
                have h2 := HW.out.cel.lt
                omega
              · exact HVU.out k hk e.symm)
            have HV2 : Hid (∀ k, blk V2 = some k → blk A2 ≠ some k) := Lib.hid fun k hk e => by
              rcases k3 k e.symm with e2 | e2
              · exact HVU.out k hk e2.symm
              · have h1 := (HROW.out.lt k (by rw [own_blk]; exact hk)).2
                omega
            clear k1 k2 k3 v0 v1 v2 v3 v4 v5 z1 y0 y1 y2 y3 y4 y5 x1
            go_wp2_with fail
            go_roundw
            case rel => exact ⟨j + 1, ii, L.filter fun y => decide (y.1 ≠ ky), o ++ [ky], A2, c2, V2, vn + 1, vc2, by omega, by omega, rfl, rfl, HP2, HR2, HO2, HG2, HW2, HV2⟩
            case measure => simp [intOf, lenOf]; omega
      · obtain rfl : j = n := by omega
        have hlt2 : ¬ ((ii : Int) < (ln : Int)) := by omega
        have HE : Hid (L = (l0.filter fun x => decide (x.2 ≠ t + 1)) ∧ o = (l0.filter fun x => decide (x.2 = t + 1)).map (·.1)) := Lib.hid (by
          obtain ⟨p1, p2, p3, p4⟩ := HP.out
          rw [List.take_of_length_le (by rw [HN.out]; exact Nat.le_refl _)] at p1 p3
          rw [List.drop_of_length_le (by rw [HN.out]; exact Nat.le_refl _), List.append_nil] at p1
          exact ⟨p1, p3⟩)
        clear HP hln hll hvi
        go_wp2_with fail
        go_returns
        rw [← HLF.out, ← HKF.out, ← HE.out.1, ← HE.out.2]
        exact ⟨_, rfl, HOWN.out, A1, c1, HR.out, HO.out, HG.out⟩
end Go.Proofs.Ytnbdgjaekjneaaa.Whl
