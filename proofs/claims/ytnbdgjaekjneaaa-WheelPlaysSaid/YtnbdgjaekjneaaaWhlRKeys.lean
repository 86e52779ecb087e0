/-
  Layer 12, the document's wheel: Keys. Conditions: none.
-/
import Derived.Test.YtnbdgjaekjneaaaWhlRTick
namespace Go.Proofs.Ytnbdgjaekjneaaa.Whl
set_option maxRecDepth 100000
open Go.RowKit Go.Deep Go.Proofs.Ytnbdgjaekjneaaa.Mem

/-- A row of the call's own of timers, not nil. -/
structure Rw (B : Nat) (w : World) (gl vn vc : Nat) (l : List Tm) : Prop where
  own : OwnG 53 7 Tm.vals B w (.slice (some ⟨gl, 0, none⟩) vn vc) l
theorem Rw.len {B gl vn vc : Nat} {w : World} {l : List Tm} (h : Rw B w gl vn vc l) : vn = l.length ∧ vn ≤ vc := by
  have h1 := (OwnG.sl fit_tms h.own).1
  refine ⟨h1, ?_⟩
  have h2 := h.own
  unfold OwnG at h2
  rw [← h1] at h2
  exact (cells_of_own h2).2.1
theorem Rw.later {B gl vn vc : Nat} {w w' : World} {l : List Tm} (h : Rw B w gl vn vc l) (hb : Below w.heap.size w w') : Rw B w' gl vn vc l := ⟨h.own.later hb⟩
theorem Rw.at {B gl vn vc : Nat} {w : World} {l : List Tm} (h : Rw B w gl vn vc l) {k : Nat} {t : Tm} (ht : l[k]? = some t) : w.rangeAt gl (k * 7) t.vals := by
  obtain ⟨hk, e⟩ := List.getElem?_eq_some_iff.1 ht
  have h1 := (OwnG.sl fit_tms h.own).1
  have h2 := h.own
  unfold OwnG at h2
  rw [← h1] at h2
  obtain ⟨hc, _⟩ := cells_of_own h2
  intro j v hv
  refine hc.cell ?_
  have hj : j < 7 := (List.getElem?_eq_some_iff.1 hv).1
  rw [flatten_at (sz := 7) (fit_tms l).len k (by rw [List.length_map]; exact hk) j hj, List.getElem_map, e]
  exact hv
/-- What lies behind place i. -/
theorem Rw.behind {B gl vn vc a1 : Nat} {w : World} {l : List Tm} (h : Rw B w gl vn vc l) (ha : a1 ≤ vn) : ∃ AD : Addr, (if vc = a1 then some ⟨gl, 0, none⟩ else some ⟨gl, a1 * 7, none⟩ : Option Addr) = some AD ∧ ∀ wi, Below w.heap.size w wi → Sl wi (some AD) 7 ((l.drop a1).map Tm.vals) := by
  obtain ⟨h1, h2⟩ := h.len
  by_cases he : vc = a1
  · refine ⟨_, if_pos he, fun wi hb => ?_⟩
    have h0 : l.drop a1 = [] := List.drop_eq_nil_iff.2 (by omega)
    rw [h0]
    exact sl_nil _ _ _
  · refine ⟨_, if_neg he, fun wi hb => ?_⟩
    have := sl_drop' (OwnG.sl fit_tms (h.later hb).own).2 a1
    rw [Nat.zero_add] at this
    rw [List.map_drop]
    exact this
def whKy6z  : Nat → Value → World → Prop
  | 0, v, _ => v = .int .i64 0
  | 1, v, _ => v = .bool false
  | 2, v, _ => v = .bool false
  | 3, v, _ => v = undef
  | 4, v, _ => v = undef
  | 5, v, _ => v = undef
  | 6, v, _ => v = undef
  | 7, v, _ => v = undef
  | 8, v, _ => v = undef
  | 9, v, _ => v = undef
  | 10, v, _ => v = undef
  | 11, v, _ => v = undef
  | 12, v, _ => v = undef
  | 13, v, _ => v = undef
  | 14, v, _ => v = undef
  | 15, v, _ => v = undef
  | 16, v, _ => v = undef
  | 17, v, _ => v = undef
  | 18, v, _ => v = .bool false
  | _, _, _ => True
def whKy6 (rb g gl n ac vn vc ii a1 q : Nat) (d1 d2 : Int) : Nat → Value → World → Prop
  | 0, v, _ => v = .int .i64 (a1 : Int)
  | 1, v, _ => v = .bool true
  | 2, v, _ => v = .bool true
  | 3, v, _ => v = .slice (some ⟨gl, 0, none⟩) vn vc
  | 4, v, _ => v = .int .i64 (a1 : Int)
  | 5, v, _ => v = .int .i64 (q : Int)
  | 6, v, _ => v = .pointer (some ⟨gl, q * 7, none⟩)
  | 7, v, _ => v = .pointer (some ⟨gl, q * 7 + 6, none⟩)
  | 8, v, _ => v = .int .i64 d1
  | 9, v, _ => v = .pointer (some ⟨rb, 0, none⟩)
  | 10, v, _ => v = .pointer (some ⟨rb, 0, none⟩)
  | 11, v, _ => v = .pointer (some ⟨rb, 1, none⟩)
  | 12, v, _ => v = .slice (some ⟨g, 0, none⟩) n ac
  | 13, v, _ => v = .int .i64 (ii : Int)
  | 14, v, _ => v = .pointer (some ⟨g, ii * 7, none⟩)
  | 15, v, _ => v = .pointer (some ⟨g, ii * 7 + 6, none⟩)
  | 16, v, _ => v = .int .i64 d2
  | 17, v, _ => v = .bool (decide (d2 < d1))
  | 18, v, _ => v = .bool (decide (d2 < d1))
  | _, _, _ => True
set_option maxHeartbeats 2000000 in
theorem RKeys_any {B rb ac : Nat} {w : World} {R : Wr} {A : Option Addr} (h : WrAt B w rb R A ac) :
    Calls Try.prog 23 #[.pointer (some ⟨rb, 0, none⟩)] w fun e w' => ∃ v, e = .returned v ∧ OwnG 41 6 Ky.vals w.heap.size w' v ((sortD R.l).map (·.1)) ∧ Below w.heap.size w w' := by
  obtain ⟨l0, hl0⟩ : ∃ l, R.l = l := ⟨_, rfl⟩
  obtain ⟨n, hn⟩ : ∃ n, l0.length = n := ⟨_, rfl⟩
  have HW := Lib.hid h
  have HL0 := Lib.hid hl0
  have HN := Lib.hid hn
  have hn256 : n ≤ 256 := by rw [← hn, ← hl0]; exact h.len
  rw [hl0]
  obtain ⟨wz, hwz⟩ : ∃ W, W = w.alloc (.cells #[] 53) := ⟨_, rfl⟩
  have hbz : Below w.heap.size w wz := by rw [hwz]; exact below_alloc _ _
  have HRZ : Hid (Rw w.heap.size wz w.heap.size 0 0 (sortD [])) := Lib.hid (by
    rw [hwz]
    exact ⟨World.ownsRow_made (base := w.heap.size) w #[] 0 (Nat.le_refl _) (Nat.zero_le _) (by simp)⟩)
  have HBZ := Lib.hid hbz
  clear h hl0 hn hbz
  go_enter Try.func23, Try.ntmps23
  go_upto_region 2 with (fail)
  rw [← hwz]
  clear hwz
  go_wp2_with fail
  go_loopw [3, 4, 5] (fun x i _ wr => ∃ (ii gl vn vc : Nat), ii ≤ n ∧ i = .int .i64 (ii : Int) ∧ x = .slice (some ⟨gl, 0, none⟩) vn vc ∧ Hid (Rw w.heap.size wr gl vn vc (sortD (l0.take ii))) ∧ Hid (Below w.heap.size w wr)) (fun _ i _ _ => n - (intOf i).toNat)
  case atStart => exact ⟨0, w.heap.size, 0, 0, Nat.zero_le _, rfl, rfl, HRZ, HBZ⟩
  case round =>
    clear HRZ HBZ
    obtain ⟨ii, gl, vn, vc, hin, rfl, rfl, HRW, HB⟩ := hrel
    have hr := HW.out.later HB.out
    have c1 := hr.cel.cell (j := 1) rfl
    rw [HL0.out, HN.out] at c1
    by_cases hlt : ii < n
    · have hil : ii < l0.length := by rw [HN.out]; exact hlt
      obtain ⟨⟨ky, due⟩, hx⟩ : ∃ x, l0[ii] = x := ⟨_, rfl⟩
      have hxi : R.l[ii]? = some (ky, due) := by rw [HL0.out, List.getElem?_eq_getElem hil, hx]
      obtain ⟨g, rfl, _⟩ := hr.at hxi
      have HXI := Lib.hid hxi
      obtain ⟨l, hl⟩ : ∃ l, sortD (l0.take ii) = l := ⟨_, rfl⟩
      have HLN : Hid (sortD (l0.take (ii + 1)) = insT (ky, due) l) := Lib.hid (by rw [List.take_succ_eq_append_getElem hil, hx, sortD_more, hl])
      have HAL : Hid (Asc l) := Lib.hid (by rw [← hl]; exact sortD_asc _)
      rw [hl] at HRW
      have HVN : Hid (vn = l.length) := Lib.hid HRW.out.len.1
      have hvl : l.length ≤ ii := by rw [← hl, (sortD_perm _).length_eq, List.length_take]; omega
      obtain ⟨wo, hwo⟩ : ∃ W, W = wr := ⟨_, rfl⟩
      subst hwo
      have HBO := Lib.hid HB.out
      clear hx hxi hl hil HB
      go_upto_region 6 with (fail)
      clear c1 hr
      go_loopw [5] (fun x wq => ∃ a1 : Nat, a1 ≤ vn ∧ x = .int .i64 (a1 : Int) ∧ Hid (∀ y ∈ l.drop a1, due < y.2) ∧ Hid (Below wo.heap.size wo wq)) (fun x _ => (intOf x).toNat)
      case atStart => exact ⟨vn, Nat.le_refl _, rfl, Lib.hid (fun y hy => by rw [List.drop_of_length_le (by have := HVN.out; omega)] at hy; cases hy), Lib.hid (Below.refl _ _)⟩
      case round =>
        obtain ⟨a1, hav, rfl, HD, HB⟩ := hrel
        by_cases ha0 : a1 = 0
        · subst ha0
          go_upto_region 6 with (fail)
          refine Reg.region_heavy (by kernel_rfl) 18 [18] (whKy6z ) (fun a => Below wr.heap.size wr a) (fun a => Below wr.heap.size wr a) (fun V => [(some 20, V 0), (some 21, V 1), (some 22, V 2), (some 23, V 3), (some 24, V 4), (some 25, V 5), (some 26, V 6), (some 27, V 7), (some 28, V 8), (some 29, V 9), (some 30, V 10), (some 31, V 11), (some 32, V 12), (some 33, V 13), (some 34, V 14), (some 35, V 15), (some 36, V 16), (some 37, V 17), (some 38, V 18)]) (by kernel_rfl) (by kernel_rfl) (by kernel_rfl) (fun V => rfl) ?_ ?_ ?_
          · exact (Below.refl _ _).drew
          · intro i o ho
            have hi : i < 19 := (Array.getElem?_eq_some_iff.1 ho).1
            rcases i with _ | _ | _ | _ | _ | _ | _ | _ | _ | _ | _ | _ | _ | _ | _ | _ | _ | _ | _ | i
            rotate_right
            · omega
            all_goals obtain rfl := Option.some.inj ho
            all_goals intro ρ wi hE hI hs hd
            all_goals try dsimp only at hI
            · have e5 : ρ (.tmp 5) = .int .i64 0 := hs 5; exact Reg.gw hI
            · obtain ⟨_, rfl, e20⟩ := hd 0 20; have hc := hE.const; exact Reg.gw hI
            · obtain ⟨_, rfl, e21⟩ := hd 1 21; exact Reg.gw hI
            · exact Reg.no hI
            · exact Reg.no hI
            · exact Reg.no hI
            · exact Reg.no hI
            · exact Reg.no hI
            · exact Reg.no hI
            · exact Reg.no hI
            · exact Reg.no hI
            · exact Reg.no hI
            · exact Reg.no hI
            · exact Reg.no hI
            · exact Reg.no hI
            · exact Reg.no hI
            · exact Reg.no hI
            · exact Reg.no hI
            · obtain ⟨_, rfl, e22⟩ := hd 2 22; obtain ⟨_, rfl, e37⟩ := hd 17 37; have hc := hE.const; exact Reg.gw hI
          · intro V wf hV hI
            have hV18 : V 18 = .bool false := hV 18 (by decide) rfl
            simp only [Reg.putsO, List.foldl_cons, List.foldl_nil, Act.put, List.setIfInBounds_toArray, List.set_cons_succ, List.set_cons_zero, hV18]
            replace hI : (fun a => Below wr.heap.size wr a) wf := hI
            clear hV hV18
            obtain ⟨we, hwe⟩ : ∃ W, W = wf := ⟨_, rfl⟩
            subst hwe
            have HB8 := Lib.hid (HB.out.trans (hI.mono HB.out.size))
            clear hI HB
            obtain ⟨a1, ha1⟩ : ∃ a, a = 0 := ⟨_, rfl⟩
            rw [← ha1] at hav HD
            have e0 : Value.int .i64 0 = .int .i64 (a1 : Int) := by rw [ha1]; rfl
            rw [show (((0 : Nat) : Int)) = (a1 : Int) by rw [ha1]]
            clear e0
            have HA1 := Lib.hid ha1
            clear ha1
            have HLE : Hid (∀ y ∈ l.take a1, y.2 ≤ due) := Lib.hid (fun y hy => by rw [HA1.out] at hy; cases hy)
            have HRV := Lib.hid (HRW.out.later HB8.out)
            have hR8 := HW.out.later (HBO.out.trans (HB8.out.mono HBO.out.size))
            have HR1 : Hid (∀ wi, Below we.heap.size we wi → wi.cell? ⟨rb, 1, none⟩ = some (.slice (some ⟨g, 0, none⟩) n ac)) := Lib.hid fun wi hb => by
              have h1 := (hR8.later hb).cel.cell (j := 1) rfl
              rw [HL0.out, HN.out] at h1
              exact h1
            have HT0 : Hid (∀ wi, Below we.heap.size we wi → wi.rangeAt g (ii * 7) (Tm.vals (ky, due))) := Lib.hid fun wi hb => by
              obtain ⟨g', eg, h1⟩ := (hR8.later hb).at HXI.out
              obtain rfl : g = g' := by simpa using eg
              exact h1
            obtain ⟨AD, hAD, hDS⟩ := HRV.out.behind hav
            have HAD := Lib.hid hAD
            have HDS := Lib.hid hDS
            have HTS : Hid (∀ wi, Below we.heap.size we wi → Sl wi (some ⟨gl, 0, none⟩) 7 ((l.take a1).map Tm.vals)) := Lib.hid fun wi hb => by rw [List.map_take]; exact sl_take' (OwnG.sl fit_tms (HRV.out.later hb).own).2 a1
            have HQ : Hid (a1 ≤ vn ∧ vn ≤ vc ∧ vn ≤ 256 ∧ (l.take a1).length = a1 ∧ (l.drop a1).length = vn - a1) := Lib.hid ⟨hav, HRW.out.len.2, by have := HVN.out; omega, by rw [List.length_take]; have := HVN.out; omega, by rw [List.length_drop, HVN.out]⟩
            have HI := Lib.hid hlt
            have HINS : Hid (l.take a1 ++ [(ky, due)] ++ l.drop a1 = insT (ky, due) l) := Lib.hid (by
              have e : untilL l due = a1 := untilL_at (by have := HVN.out; omega) HLE.out HD.out
              unfold insT
              dsimp only
              rw [e, List.append_assoc]
              rfl)
            have HWE : Hid (w.heap.size ≤ we.heap.size) := Lib.hid (Nat.le_trans HBO.out.size HB8.out.size)
            clear hR8 hAD hDS
            go_upto_region 8 with (fail)
            refine Reg.region_inv (by kernel_rfl) (fun i => ([none, some (.slice (some ⟨gl, 0, none⟩) vn vc), some (.int .i64 (a1 : Int)), some (.slice (some ⟨gl, 0, none⟩) a1 vc), none, some (.pointer (some ⟨rb, 0, none⟩)), some (.pointer (some ⟨rb, 0, none⟩)), some (.pointer (some ⟨rb, 1, none⟩)), some (.slice (some ⟨g, 0, none⟩) n ac), some (.int .i64 (ii : Int)), some (.pointer (some ⟨g, ii * 7, none⟩)), some (.agg #[.int .i64 ky.kind, .int .i64 ky.cell, .int .i64 ky.node, .int .i64 ky.tn, .int .i64 ky.te, .int .i64 ky.ts, .int .i64 due]), none, none, some (.slice (some ⟨gl, 0, none⟩) vn vc), some (.int .i64 (a1 : Int)), some (.slice (some AD) (vn - a1) (vc - a1)), none, none] : List (Option Value)).getD i none) (fun D V W => ApG 53 7 Tm.vals we (D 0) (cond (D 17) (V 17) (cond (D 13) (V 13) (cond (D 4) (V 4) (V 0)))) (cond (D 17) (l.take a1 ++ [(ky, due)] ++ l.drop a1) (cond (D 13) (l.take a1 ++ [(ky, due)]) (cond (D 4) (l.take a1) []))) (D 12) (V 12) (ky, due) W ∧ ((D 18) = true → (V 18) = (V 17))) (fun V => [(some 41, V 0), (some 42, V 1), (some 43, V 2), (some 44, V 3), (some 45, V 4), (some 46, V 5), (some 47, V 6), (some 48, V 7), (some 49, V 8), (some 50, V 9), (some 51, V 10), (some 52, V 11), (some 53, V 12), (some 54, V 13), (some 55, V 14), (some 56, V 15), (some 57, V 16), (some 58, V 17), (some 3, V 18)]) (by kernel_rfl) (by kernel_rfl) (fun V => rfl) ?_ ?_ ?_
            · intro V
              exact ⟨ApG.start (Below.refl _ _).drew _ _ _ _, fun e => (by cases e)⟩
            · intro i o ho
              have hi : i < 19 := (Array.getElem?_eq_some_iff.1 ho).1
              rcases i with _ | _ | _ | _ | _ | _ | _ | _ | _ | _ | _ | _ | _ | _ | _ | _ | _ | _ | _ | i
              rotate_right
              · omega
              all_goals obtain rfl := Option.some.inj ho
              all_goals intro D V ρ wi hE hI hDi hT hF hs hd hk
              · have hD0 : D 0 = false := hDi; have hD4 : D 4 = false := hF 1 4; have hD13 : D 13 = false := hF 2 13; have hD17 : D 17 = false := hF 3 17; have hD18 : D 18 = false := hF 1 18; clear hT hF; have h1 := hI.1
                rw [hD0, hD4, hD13, hD17] at h1
                simp only [cond_false] at h1
                exact Reg.Gives.value (v := .slice (some ⟨wi.heap.size, 0, none⟩) 0 0) (w' := wi.alloc (.cells #[] 53)) (by go_simp) ⟨fun x h => (by cases h), by show ApG 53 7 Tm.vals we true (cond (D 17) (V 17) (cond (D 13) (V 13) (cond (D 4) (V 4) (Value.slice (some ⟨wi.heap.size, 0, none⟩) 0 0)))) (cond (D 17) (l.take a1 ++ [(ky, due)] ++ l.drop a1) (cond (D 13) (l.take a1 ++ [(ky, due)]) (cond (D 4) (l.take a1) []))) (D 12) (V 12) (ky, due) (wi.alloc (.cells #[] 53)) ∧ ((D 18) = true → (V 18) = (V 17)); rw [hD4, hD13, hD17]; simp only [cond_false]; exact ⟨h1.mkz, fun e => (by rw [hD18] at e; cases e)⟩⟩
              · have e3 : ρ (.tmp 3) = .slice (some ⟨gl, 0, none⟩) vn vc := hs 3; clear hT hF hk
                exact Reg.Gives.value (v := .slice (some ⟨gl, 0, none⟩) vn vc) (w' := wi) (by go_simp) ⟨fun x h => Option.some.inj h, hI⟩
              · have e5 : ρ (.tmp 5) = .int .i64 (a1 : Int) := hs 5; clear hT hF hk
                exact Reg.Gives.value (v := .int .i64 (a1 : Int)) (w' := wi) (by go_simp) ⟨fun x h => Option.some.inj h, hI⟩
              · have e42 : ρ (.tmp 42) = .slice (some ⟨gl, 0, none⟩) vn vc := (hd 1 42).trans (hk 1 _ rfl); have e43 : ρ (.tmp 43) = .int .i64 (a1 : Int) := (hd 2 43).trans (hk 2 _ rfl); clear hT hF
                have z1 : (a1 : Int) ≤ (vc : Int) := by have := HQ.out; omega
                have z2 : a1 ≤ vc := by have := HQ.out; omega
                exact Reg.Gives.value (v := .slice (some ⟨gl, 0, none⟩) a1 vc) (w' := wi) (by go_simp) ⟨fun x h => Option.some.inj h, hI⟩
              · have e41 : ρ (.tmp 41) = V 0 := hd 0 41; have e44 : ρ (.tmp 44) = .slice (some ⟨gl, 0, none⟩) a1 vc := (hd 3 44).trans (hk 3 _ rfl); have hD0 : D 0 = true := hT 1 0; have hD4 : D 4 = false := hDi; have hD13 : D 13 = false := hF 1 13; have hD17 : D 17 = false := hF 2 17; have hD18 : D 18 = false := hF 1 18; clear hT hF; have h1 := hI.1
                rw [hD0, hD4, hD13, hD17] at h1
                try simp only [cond_false] at h1
                try simp only [cond_true] at h1
                obtain ⟨A2, n2, c2, w2, hrun, hn⟩ := ApG.app el_tm fit_tms h1 (m := l.take a1) (HTS.out wi h1.low) (fun e => by cases e) (by have := HQ.out; simp; omega)
                rw [HQ.out.2.2.2.1] at hrun
                rw [List.nil_append] at hn
                exact Reg.Gives.value (v := .slice A2 n2 c2) (w' := w2) (Reg.exec_append rfl e41 e44 hrun) ⟨fun x h => (by cases h), by show ApG 53 7 Tm.vals we (D 0) (cond (D 17) (V 17) (cond (D 13) (V 13) (cond true (Value.slice A2 n2 c2) (V 0)))) (cond (D 17) (l.take a1 ++ [(ky, due)] ++ l.drop a1) (cond (D 13) (l.take a1 ++ [(ky, due)]) (cond true (l.take a1) []))) (D 12) (V 12) (ky, due) w2 ∧ ((D 18) = true → (V 18) = (V 17)); rw [hD0, hD13, hD17]; (try simp only [cond_false]); (try simp only [cond_true]); exact ⟨hn, fun e => (by rw [hD18] at e; cases e)⟩⟩
              · have e0 : ρ (.tmp 0) = .pointer (some ⟨rb, 0, none⟩) := hs 0; clear hT hF hk
                exact Reg.Gives.value (v := .pointer (some ⟨rb, 0, none⟩)) (w' := wi) (by go_simp) ⟨fun x h => Option.some.inj h, hI⟩
              · have e46 : ρ (.tmp 46) = .pointer (some ⟨rb, 0, none⟩) := (hd 5 46).trans (hk 5 _ rfl); clear hT hF hk
                exact Reg.Gives.value (v := .pointer (some ⟨rb, 0, none⟩)) (w' := wi) (by go_simp) ⟨fun x h => Option.some.inj h, hI⟩
              · have e47 : ρ (.tmp 47) = .pointer (some ⟨rb, 0, none⟩) := (hd 6 47).trans (hk 6 _ rfl); clear hT hF hk
                exact Reg.Gives.value (v := .pointer (some ⟨rb, 1, none⟩)) (w' := wi) (by go_simp) ⟨fun x h => Option.some.inj h, hI⟩
              · have e48 : ρ (.tmp 48) = .pointer (some ⟨rb, 1, none⟩) := (hd 7 48).trans (hk 7 _ rfl); clear hT hF; have hL : Below we.heap.size we wi := hI.1.low; have x0 := HR1.out _ hL
                exact Reg.Gives.value (v := .slice (some ⟨g, 0, none⟩) n ac) (w' := wi) (by go_simp) ⟨fun x h => Option.some.inj h, hI⟩
              · have e4 : ρ (.tmp 4) = .int .i64 (ii : Int) := hs 4; clear hT hF hk
                exact Reg.Gives.value (v := .int .i64 (ii : Int)) (w' := wi) (by go_simp) ⟨fun x h => Option.some.inj h, hI⟩
              · have e49 : ρ (.tmp 49) = .slice (some ⟨g, 0, none⟩) n ac := (hd 8 49).trans (hk 8 _ rfl); have e50 : ρ (.tmp 50) = .int .i64 (ii : Int) := (hd 9 50).trans (hk 9 _ rfl); clear hT hF
                have z1 : (0 : Int) ≤ (ii : Int) := by omega
                have z2 : (ii : Int) < (n : Int) := by have := HI.out; omega
                have z3 : ii < n := HI.out
                exact Reg.Gives.value (v := .pointer (some ⟨g, ii * 7, none⟩)) (w' := wi) (by go_simp) ⟨fun x h => Option.some.inj h, hI⟩
              · have e51 : ρ (.tmp 51) = .pointer (some ⟨g, ii * 7, none⟩) := (hd 10 51).trans (hk 10 _ rfl); clear hT hF; have hL : Below we.heap.size we wi := hI.1.low; have hq := HT0.out _ hL; have q0 := hq 0 _ rfl
                rw [Nat.add_zero] at q0
                have q1 := hq 1 _ rfl; have q2 := hq 2 _ rfl; have q3 := hq 3 _ rfl; have q4 := hq 4 _ rfl; have q5 := hq 5 _ rfl; have q6 := hq 6 _ rfl
                dsimp only [Tm.vals] at q0 q1 q2 q3 q4 q5 q6
                exact Reg.Gives.value (v := .agg #[.int .i64 ky.kind, .int .i64 ky.cell, .int .i64 ky.node, .int .i64 ky.tn, .int .i64 ky.te, .int .i64 ky.ts, .int .i64 due]) (w' := wi) (by go_simp) ⟨fun x h => Option.some.inj h, hI⟩
              · have e52 : ρ (.tmp 52) = .agg #[.int .i64 ky.kind, .int .i64 ky.cell, .int .i64 ky.node, .int .i64 ky.tn, .int .i64 ky.te, .int .i64 ky.ts, .int .i64 due] := (hd 11 52).trans (hk 11 _ rfl); have hD12 : D 12 = false := hDi; clear hT hF; have h1 := hI.1
                rw [hD12] at h1
                exact Reg.Gives.value (v := .slice (some ⟨wi.heap.size, 0, none⟩) 1 1) (w' := wi.alloc (.cells #[.int .i64 ky.kind, .int .i64 ky.cell, .int .i64 ky.node, .int .i64 ky.tn, .int .i64 ky.te, .int .i64 ky.ts, .int .i64 due] 53)) (by go_simp) ⟨fun x h => (by cases h), by show ApG 53 7 Tm.vals we (D 0) (cond (D 17) (V 17) (cond (D 13) (V 13) (cond (D 4) (V 4) (V 0)))) (cond (D 17) (l.take a1 ++ [(ky, due)] ++ l.drop a1) (cond (D 13) (l.take a1 ++ [(ky, due)]) (cond (D 4) (l.take a1) []))) true (Value.slice (some ⟨wi.heap.size, 0, none⟩) 1 1) (ky, due) (wi.alloc (.cells #[.int .i64 ky.kind, .int .i64 ky.cell, .int .i64 ky.node, .int .i64 ky.tn, .int .i64 ky.te, .int .i64 ky.ts, .int .i64 due] 53)) ∧ ((D 18) = true → (V 18) = (V 17)); exact ⟨h1.mkx _ rfl, hI.2⟩⟩
              · have e45 : ρ (.tmp 45) = V 4 := hd 4 45; have e53 : ρ (.tmp 53) = V 12 := hd 12 53; have hD0 : D 0 = true := hT 2 0; have hD4 : D 4 = true := hT 1 4; have hD12 : D 12 = true := hT 1 12; have hD13 : D 13 = false := hDi; have hD17 : D 17 = false := hF 1 17; have hD18 : D 18 = false := hF 1 18; clear hT hF; have h1 := hI.1
                rw [hD0, hD4, hD12, hD13, hD17] at h1
                try simp only [cond_false] at h1
                try simp only [cond_true] at h1
                obtain ⟨g2, A2, n2, c2, w2, hx2, hrun, hn⟩ := ApG.one el_tm fit_tms h1 (by have := HQ.out; simp; omega)
                rw [hx2] at e53
                exact Reg.Gives.value (v := .slice A2 n2 c2) (w' := w2) (Reg.exec_append rfl e45 e53 hrun) ⟨fun x h => (by cases h), by show ApG 53 7 Tm.vals we (D 0) (cond (D 17) (V 17) (cond true (Value.slice A2 n2 c2) (cond (D 4) (V 4) (V 0)))) (cond (D 17) (l.take a1 ++ [(ky, due)] ++ l.drop a1) (cond true (l.take a1 ++ [(ky, due)]) (cond (D 4) (l.take a1) []))) (D 12) (V 12) (ky, due) w2 ∧ ((D 18) = true → (V 18) = (V 17)); rw [hD0, hD4, hD12, hD17]; (try simp only [cond_false]); (try simp only [cond_true]); exact ⟨hn, fun e => (by rw [hD18] at e; cases e)⟩⟩
              · have e3 : ρ (.tmp 3) = .slice (some ⟨gl, 0, none⟩) vn vc := hs 3; clear hT hF hk
                exact Reg.Gives.value (v := .slice (some ⟨gl, 0, none⟩) vn vc) (w' := wi) (by go_simp) ⟨fun x h => Option.some.inj h, hI⟩
              · have e5 : ρ (.tmp 5) = .int .i64 (a1 : Int) := hs 5; clear hT hF hk
                exact Reg.Gives.value (v := .int .i64 (a1 : Int)) (w' := wi) (by go_simp) ⟨fun x h => Option.some.inj h, hI⟩
              · have e55 : ρ (.tmp 55) = .slice (some ⟨gl, 0, none⟩) vn vc := (hd 14 55).trans (hk 14 _ rfl); have e56 : ρ (.tmp 56) = .int .i64 (a1 : Int) := (hd 15 56).trans (hk 15 _ rfl); clear hT hF; have z1 : a1 ≤ vn := HQ.out.1
                have z2 : a1 ≤ vc := by have := HQ.out; omega
                have z3 : (0 : Int) ≤ (a1 : Int) := by omega
                have z4 : (a1 : Int) ≤ (vn : Int) := by have := HQ.out; omega
                have z5 := HAD.out
                exact Reg.Gives.value (v := .slice (some AD) (vn - a1) (vc - a1)) (w' := wi) (by go_simp) ⟨fun x h => Option.some.inj h, hI⟩
              · have e54 : ρ (.tmp 54) = V 13 := hd 13 54; have e57 : ρ (.tmp 57) = .slice (some AD) (vn - a1) (vc - a1) := (hd 16 57).trans (hk 16 _ rfl); have hD0 : D 0 = true := hT 3 0; have hD4 : D 4 = true := hT 2 4; have hD13 : D 13 = true := hT 1 13; have hD17 : D 17 = false := hDi; have hD18 : D 18 = false := hF 1 18; clear hT hF; have h1 := hI.1
                rw [hD0, hD4, hD13, hD17] at h1
                try simp only [cond_false] at h1
                try simp only [cond_true] at h1
                obtain ⟨A2, n2, c2, w2, hrun, hn⟩ := ApG.app el_tm fit_tms h1 (m := l.drop a1) (HDS.out wi h1.low) (fun e => by cases e) (by have := HQ.out; simp; omega)
                rw [HQ.out.2.2.2.2] at hrun
                exact Reg.Gives.value (v := .slice A2 n2 c2) (w' := w2) (Reg.exec_append rfl e54 e57 hrun) ⟨fun x h => (by cases h), by show ApG 53 7 Tm.vals we (D 0) (cond true (Value.slice A2 n2 c2) (cond (D 13) (V 13) (cond (D 4) (V 4) (V 0)))) (cond true (l.take a1 ++ [(ky, due)] ++ l.drop a1) (cond (D 13) (l.take a1 ++ [(ky, due)]) (cond (D 4) (l.take a1) []))) (D 12) (V 12) (ky, due) w2 ∧ ((D 18) = true → (V 18) = (Value.slice A2 n2 c2)); rw [hD0, hD4, hD13]; (try simp only [cond_false]); (try simp only [cond_true]); exact ⟨hn, fun e => (by rw [hD18] at e; cases e)⟩⟩
              · have e58 : ρ (.tmp 58) = V 17 := hd 17 58; clear hT hF; have h1 := hI.1
                exact Reg.Gives.value (v := V 17) (w' := wi) (by go_simp) ⟨fun x h => (by cases h), by show ApG 53 7 Tm.vals we (D 0) (cond (D 17) (V 17) (cond (D 13) (V 13) (cond (D 4) (V 4) (V 0)))) (cond (D 17) (l.take a1 ++ [(ky, due)] ++ l.drop a1) (cond (D 13) (l.take a1 ++ [(ky, due)]) (cond (D 4) (l.take a1) []))) (D 12) (V 12) (ky, due) wi ∧ (true = true → (V 17) = (V 17)); exact ⟨h1, fun _ => rfl⟩⟩
            · intro V wf hk hI
              simp only [Reg.putsO, List.foldl_cons, List.foldl_nil, Act.put, List.setIfInBounds_toArray, List.set_cons_succ, List.set_cons_zero]
              replace hI : ApG 53 7 Tm.vals we true (cond true (V 17) (cond true (V 13) (cond true (V 4) (V 0)))) (cond true (l.take a1 ++ [(ky, due)] ++ l.drop a1) (cond true (l.take a1 ++ [(ky, due)]) (cond true (l.take a1) []))) true (V 12) (ky, due) wf ∧ (true = true → (V 18) = (V 17)) := hI
              clear hk
              obtain ⟨hap, h18⟩ := hI
              try simp only [cond_true] at hap
              rw [HINS.out] at hap
              have hac := hap.acc rfl
              have hlo := hap.low
              obtain ⟨A2, c2, hv⟩ := row_slice hac
              have hne : (insT (ky, due) l).length ≠ 0 := by rw [insT_len]; omega
              obtain ⟨g2, rfl⟩ : ∃ g2, A2 = some ⟨g2, 0, none⟩ := by
                rcases hac.2 with ⟨_, h0⟩ | ⟨g2, cap, cur, h1, _⟩
                · exact absurd h0 hne
                · rw [hv] at h1
                  simp only [Value.slice.injEq] at h1
                  exact ⟨g2, h1.1⟩
              obtain ⟨n2, hn2⟩ : ∃ n2, (insT (ky, due) l).length = n2 := ⟨_, rfl⟩
              rw [hn2] at hv
              have HNX : Hid (Rw w.heap.size wf g2 n2 c2 (sortD (l0.take (ii + 1)))) := Lib.hid ⟨by
                rw [HLN.out]
                have h1 := own_up HWE.out hac
                rw [hv] at h1
                exact h1⟩
              have HBX := Lib.hid ((HBO.out.trans (HB8.out.mono HBO.out.size)).trans (hlo.mono HWE.out))
              rw [h18 rfl, hv]
              clear hap h18 hac hlo hv hne hn2
              go_wp2_with fail
              go_roundw
              case rel => exact ⟨ii + 1, g2, n2, c2, by omega, by go_num, rfl, HNX, HBX⟩
              case measure => simp [intOf]; omega
        · obtain ⟨q, hq⟩ : ∃ q, q + 1 = a1 := ⟨a1 - 1, by omega⟩
          have hql : q < l.length := by have := HVN.out; omega
          obtain ⟨⟨k1, d1⟩, hd⟩ : ∃ y, l[q] = y := ⟨_, rfl⟩
          have hdq : l[q]? = some (k1, d1) := by rw [List.getElem?_eq_getElem hql, hd]
          have HT1 : Hid (∀ wi, Below wr.heap.size wr wi → wi.cell? ⟨gl, q * 7 + 6, none⟩ = some (.int .i64 d1)) := Lib.hid fun wi hb => ((HRW.out.later HB.out).later hb).at hdq 6 _ rfl
          have hR8 := HW.out.later (HBO.out.trans (HB.out.mono HBO.out.size))
          have HR1 : Hid (∀ wi, Below wr.heap.size wr wi → wi.cell? ⟨rb, 1, none⟩ = some (.slice (some ⟨g, 0, none⟩) n ac)) := Lib.hid fun wi hb => by
            have h1 := (hR8.later hb).cel.cell (j := 1) rfl
            rw [HL0.out, HN.out] at h1
            exact h1
          have HT0 : Hid (∀ wi, Below wr.heap.size wr wi → wi.cell? ⟨g, ii * 7 + 6, none⟩ = some (.int .i64 due)) := Lib.hid fun wi hb => by
            obtain ⟨g', eg, h1⟩ := (hR8.later hb).at HXI.out
            obtain rfl : g = g' := by simpa using eg
            exact h1 6 _ rfl
          have HQ : Hid (q + 1 = a1 ∧ a1 ≤ vn) := Lib.hid ⟨hq, hav⟩
          have HQ1 : Hid (IntKind.i64.wrap ((a1 : Int) - 1) = (q : Int)) := Lib.hid (by rw [IntKind.wrap_i64]; omega)
          have HI := Lib.hid hlt
          have HDR : Hid (l.drop q = (k1, d1) :: l.drop a1) := Lib.hid (by rw [List.drop_eq_getElem_cons hql, hd, hq])
          obtain ⟨b, hb⟩ : ∃ b, decide (due < d1) = b := ⟨_, rfl⟩
          have HBQ := Lib.hid hb
          have HLOW : Hid (d1 ≤ due → ∀ y ∈ l.take a1, y.2 ≤ due) := Lib.hid fun e => by
            rw [← hq]
            exact HAL.out.low hql (by rw [hd]; exact e)
          clear hd hdq hR8 hq hql ha0
          go_upto_region 6 with (fail)
          refine Reg.region_heavy (by kernel_rfl) 18 [18] (whKy6 rb g gl n ac vn vc ii a1 q d1 due) (fun a => Below wr.heap.size wr a) (fun a => Below wr.heap.size wr a) (fun V => [(some 20, V 0), (some 21, V 1), (some 22, V 2), (some 23, V 3), (some 24, V 4), (some 25, V 5), (some 26, V 6), (some 27, V 7), (some 28, V 8), (some 29, V 9), (some 30, V 10), (some 31, V 11), (some 32, V 12), (some 33, V 13), (some 34, V 14), (some 35, V 15), (some 36, V 16), (some 37, V 17), (some 38, V 18)]) (by kernel_rfl) (by kernel_rfl) (by kernel_rfl) (fun V => rfl) ?_ ?_ ?_
          · exact (Below.refl _ _).drew
          · intro i o ho
            have hi : i < 19 := (Array.getElem?_eq_some_iff.1 ho).1
            rcases i with _ | _ | _ | _ | _ | _ | _ | _ | _ | _ | _ | _ | _ | _ | _ | _ | _ | _ | _ | i
            rotate_right
            · omega
            all_goals obtain rfl := Option.some.inj ho
            all_goals intro ρ wi hE hI hs hd
            all_goals try dsimp only at hI
            · have e5 : ρ (.tmp 5) = .int .i64 (a1 : Int) := hs 5; exact Reg.gw hI
            · obtain ⟨_, rfl, e20⟩ := hd 0 20; have hc := hE.const
              have z0 : (0 : Int) < (a1 : Int) := by have := HQ.out; omega
              have z00 : 0 < a1 := by have := HQ.out; omega
              exact Reg.gw hI
            · obtain ⟨_, rfl, e21⟩ := hd 1 21; exact Reg.gw hI
            · have e3 : ρ (.tmp 3) = .slice (some ⟨gl, 0, none⟩) vn vc := hs 3
              refine Reg.yes ?_
              exact Reg.gw hI
            · have e5 : ρ (.tmp 5) = .int .i64 (a1 : Int) := hs 5
              refine Reg.yes ?_
              exact Reg.gw hI
            · obtain ⟨_, rfl, e24⟩ := hd 4 24; have hc := hE.const
              refine Reg.yes ?_
              have z0 := HQ1.out; exact Reg.gw hI
            · obtain ⟨_, rfl, e23⟩ := hd 3 23; obtain ⟨_, rfl, e25⟩ := hd 5 25
              refine Reg.yes ?_
              have z1 : (0 : Int) ≤ (q : Int) := by omega
              have z2 : (q : Int) < (vn : Int) := by have := HQ.out; omega
              have z3 : q < vn := by have := HQ.out; omega
              exact Reg.gw hI
            · obtain ⟨_, rfl, e26⟩ := hd 6 26
              refine Reg.yes ?_
              exact Reg.gw hI
            · obtain ⟨_, rfl, e27⟩ := hd 7 27
              refine Reg.yes ?_
              have x0 := HT1.out _ hI; exact Reg.gw hI
            · have e0 : ρ (.tmp 0) = .pointer (some ⟨rb, 0, none⟩) := hs 0
              refine Reg.yes ?_
              exact Reg.gw hI
            · obtain ⟨_, rfl, e29⟩ := hd 9 29
              refine Reg.yes ?_
              exact Reg.gw hI
            · obtain ⟨_, rfl, e30⟩ := hd 10 30
              refine Reg.yes ?_
              exact Reg.gw hI
            · obtain ⟨_, rfl, e31⟩ := hd 11 31
              refine Reg.yes ?_
              have x0 := HR1.out _ hI; exact Reg.gw hI
            · have e4 : ρ (.tmp 4) = .int .i64 (ii : Int) := hs 4
              refine Reg.yes ?_
              exact Reg.gw hI
            · obtain ⟨_, rfl, e32⟩ := hd 12 32; obtain ⟨_, rfl, e33⟩ := hd 13 33
              refine Reg.yes ?_
              have z1 : (0 : Int) ≤ (ii : Int) := by omega
              have z2 : (ii : Int) < (n : Int) := by have := HI.out; omega
              have z3 : ii < n := HI.out; exact Reg.gw hI
            · obtain ⟨_, rfl, e34⟩ := hd 14 34
              refine Reg.yes ?_
              exact Reg.gw hI
            · obtain ⟨_, rfl, e35⟩ := hd 15 35
              refine Reg.yes ?_
              have x0 := HT0.out _ hI; exact Reg.gw hI
            · obtain ⟨_, rfl, e28⟩ := hd 8 28; obtain ⟨_, rfl, e36⟩ := hd 16 36
              refine Reg.yes ?_
              exact Reg.gw hI
            · obtain ⟨_, rfl, e22⟩ := hd 2 22; obtain ⟨_, rfl, e37⟩ := hd 17 37; have hc := hE.const; exact Reg.gw hI
          · intro V wf hV hI
            have hV18 : V 18 = .bool (decide (due < d1)) := hV 18 (by decide) rfl
            simp only [Reg.putsO, List.foldl_cons, List.foldl_nil, Act.put, List.setIfInBounds_toArray, List.set_cons_succ, List.set_cons_zero, hV18]
            replace hI : (fun a => Below wr.heap.size wr a) wf := hI
            clear hV hV18
            rw [hb]
            clear hb HT1 HR1 HT0
            have HBN := Lib.hid (HB.out.trans (hI.mono HB.out.size))
            clear hI HB
            cases b with
            | true =>
              have HD2 : Hid (∀ y ∈ l.drop q, due < y.2) := Lib.hid fun y hy => by
                rw [HDR.out] at hy
                rcases List.mem_cons.1 hy with rfl | hy
                · exact of_decide_eq_true HBQ.out
                · exact HD.out y hy
              have hw1 := HQ1.out
              go_wp2_with fail
              go_roundw
              case rel => exact ⟨q, by have := HQ.out; omega, rfl, HD2, HBN⟩
              case measure => simp [intOf]; have := HQ.out; omega
            | false =>
              have HLOW2 := Lib.hid (HLOW.out (by have := of_decide_eq_false HBQ.out; omega))
              obtain ⟨we, hwe⟩ : ∃ W, W = wf := ⟨_, rfl⟩
              subst hwe
              have HB8 := HBN
              clear HQ HI HBN HQ1
              have HLE : Hid (∀ y ∈ l.take a1, y.2 ≤ due) := Lib.hid (HLOW2.out)
              have HRV := Lib.hid (HRW.out.later HB8.out)
              have hR8 := HW.out.later (HBO.out.trans (HB8.out.mono HBO.out.size))
              have HR1 : Hid (∀ wi, Below we.heap.size we wi → wi.cell? ⟨rb, 1, none⟩ = some (.slice (some ⟨g, 0, none⟩) n ac)) := Lib.hid fun wi hb => by
                have h1 := (hR8.later hb).cel.cell (j := 1) rfl
                rw [HL0.out, HN.out] at h1
                exact h1
              have HT0 : Hid (∀ wi, Below we.heap.size we wi → wi.rangeAt g (ii * 7) (Tm.vals (ky, due))) := Lib.hid fun wi hb => by
                obtain ⟨g', eg, h1⟩ := (hR8.later hb).at HXI.out
                obtain rfl : g = g' := by simpa using eg
                exact h1
              obtain ⟨AD, hAD, hDS⟩ := HRV.out.behind hav
              have HAD := Lib.hid hAD
              have HDS := Lib.hid hDS
              have HTS : Hid (∀ wi, Below we.heap.size we wi → Sl wi (some ⟨gl, 0, none⟩) 7 ((l.take a1).map Tm.vals)) := Lib.hid fun wi hb => by rw [List.map_take]; exact sl_take' (OwnG.sl fit_tms (HRV.out.later hb).own).2 a1
              have HQ : Hid (a1 ≤ vn ∧ vn ≤ vc ∧ vn ≤ 256 ∧ (l.take a1).length = a1 ∧ (l.drop a1).length = vn - a1) := Lib.hid ⟨hav, HRW.out.len.2, by have := HVN.out; omega, by rw [List.length_take]; have := HVN.out; omega, by rw [List.length_drop, HVN.out]⟩
              have HI := Lib.hid hlt
              have HINS : Hid (l.take a1 ++ [(ky, due)] ++ l.drop a1 = insT (ky, due) l) := Lib.hid (by
                have e : untilL l due = a1 := untilL_at (by have := HVN.out; omega) HLE.out HD.out
                unfold insT
                dsimp only
                rw [e, List.append_assoc]
                rfl)
              have HWE : Hid (w.heap.size ≤ we.heap.size) := Lib.hid (Nat.le_trans HBO.out.size HB8.out.size)
              clear hR8 hAD hDS
              go_upto_region 8 with (fail)
              refine Reg.region_inv (by kernel_rfl) (fun i => ([none, some (.slice (some ⟨gl, 0, none⟩) vn vc), some (.int .i64 (a1 : Int)), some (.slice (some ⟨gl, 0, none⟩) a1 vc), none, some (.pointer (some ⟨rb, 0, none⟩)), some (.pointer (some ⟨rb, 0, none⟩)), some (.pointer (some ⟨rb, 1, none⟩)), some (.slice (some ⟨g, 0, none⟩) n ac), some (.int .i64 (ii : Int)), some (.pointer (some ⟨g, ii * 7, none⟩)), some (.agg #[.int .i64 ky.kind, .int .i64 ky.cell, .int .i64 ky.node, .int .i64 ky.tn, .int .i64 ky.te, .int .i64 ky.ts, .int .i64 due]), none, none, some (.slice (some ⟨gl, 0, none⟩) vn vc), some (.int .i64 (a1 : Int)), some (.slice (some AD) (vn - a1) (vc - a1)), none, none] : List (Option Value)).getD i none) (fun D V W => ApG 53 7 Tm.vals we (D 0) (cond (D 17) (V 17) (cond (D 13) (V 13) (cond (D 4) (V 4) (V 0)))) (cond (D 17) (l.take a1 ++ [(ky, due)] ++ l.drop a1) (cond (D 13) (l.take a1 ++ [(ky, due)]) (cond (D 4) (l.take a1) []))) (D 12) (V 12) (ky, due) W ∧ ((D 18) = true → (V 18) = (V 17))) (fun V => [(some 41, V 0), (some 42, V 1), (some 43, V 2), (some 44, V 3), (some 45, V 4), (some 46, V 5), (some 47, V 6), (some 48, V 7), (some 49, V 8), (some 50, V 9), (some 51, V 10), (some 52, V 11), (some 53, V 12), (some 54, V 13), (some 55, V 14), (some 56, V 15), (some 57, V 16), (some 58, V 17), (some 3, V 18)]) (by kernel_rfl) (by kernel_rfl) (fun V => rfl) ?_ ?_ ?_
              · intro V
                exact ⟨ApG.start (Below.refl _ _).drew _ _ _ _, fun e => (by cases e)⟩
              · intro i o ho
                have hi : i < 19 := (Array.getElem?_eq_some_iff.1 ho).1
                rcases i with _ | _ | _ | _ | _ | _ | _ | _ | _ | _ | _ | _ | _ | _ | _ | _ | _ | _ | _ | i
                rotate_right
                · omega
                all_goals obtain rfl := Option.some.inj ho
                all_goals intro D V ρ wi hE hI hDi hT hF hs hd hk
                · have hD0 : D 0 = false := hDi; have hD4 : D 4 = false := hF 1 4; have hD13 : D 13 = false := hF 2 13; have hD17 : D 17 = false := hF 3 17; have hD18 : D 18 = false := hF 1 18; clear hT hF; have h1 := hI.1
                  rw [hD0, hD4, hD13, hD17] at h1
                  simp only [cond_false] at h1
                  exact Reg.Gives.value (v := .slice (some ⟨wi.heap.size, 0, none⟩) 0 0) (w' := wi.alloc (.cells #[] 53)) (by go_simp) ⟨fun x h => (by cases h), by show ApG 53 7 Tm.vals we true (cond (D 17) (V 17) (cond (D 13) (V 13) (cond (D 4) (V 4) (Value.slice (some ⟨wi.heap.size, 0, none⟩) 0 0)))) (cond (D 17) (l.take a1 ++ [(ky, due)] ++ l.drop a1) (cond (D 13) (l.take a1 ++ [(ky, due)]) (cond (D 4) (l.take a1) []))) (D 12) (V 12) (ky, due) (wi.alloc (.cells #[] 53)) ∧ ((D 18) = true → (V 18) = (V 17)); rw [hD4, hD13, hD17]; simp only [cond_false]; exact ⟨h1.mkz, fun e => (by rw [hD18] at e; cases e)⟩⟩
                · have e3 : ρ (.tmp 3) = .slice (some ⟨gl, 0, none⟩) vn vc := hs 3; clear hT hF hk
                  exact Reg.Gives.value (v := .slice (some ⟨gl, 0, none⟩) vn vc) (w' := wi) (by go_simp) ⟨fun x h => Option.some.inj h, hI⟩
                · have e5 : ρ (.tmp 5) = .int .i64 (a1 : Int) := hs 5; clear hT hF hk
                  exact Reg.Gives.value (v := .int .i64 (a1 : Int)) (w' := wi) (by go_simp) ⟨fun x h => Option.some.inj h, hI⟩
                · have e42 : ρ (.tmp 42) = .slice (some ⟨gl, 0, none⟩) vn vc := (hd 1 42).trans (hk 1 _ rfl); have e43 : ρ (.tmp 43) = .int .i64 (a1 : Int) := (hd 2 43).trans (hk 2 _ rfl); clear hT hF
                  have z1 : (a1 : Int) ≤ (vc : Int) := by have := HQ.out; omega
                  have z2 : a1 ≤ vc := by have := HQ.out; omega
                  exact Reg.Gives.value (v := .slice (some ⟨gl, 0, none⟩) a1 vc) (w' := wi) (by go_simp) ⟨fun x h => Option.some.inj h, hI⟩
                · have e41 : ρ (.tmp 41) = V 0 := hd 0 41; have e44 : ρ (.tmp 44) = .slice (some ⟨gl, 0, none⟩) a1 vc := (hd 3 44).trans (hk 3 _ rfl); have hD0 : D 0 = true := hT 1 0; have hD4 : D 4 = false := hDi; have hD13 : D 13 = false := hF 1 13; have hD17 : D 17 = false := hF 2 17; have hD18 : D 18 = false := hF 1 18; clear hT hF; have h1 := hI.1
                  rw [hD0, hD4, hD13, hD17] at h1
                  try simp only [cond_false] at h1
                  try simp only [cond_true] at h1
                  obtain ⟨A2, n2, c2, w2, hrun, hn⟩ := ApG.app el_tm fit_tms h1 (m := l.take a1) (HTS.out wi h1.low) (fun e => by cases e) (by have := HQ.out; simp; omega)
                  rw [HQ.out.2.2.2.1] at hrun
                  rw [List.nil_append] at hn
                  exact Reg.Gives.value (v := .slice A2 n2 c2) (w' := w2) (Reg.exec_append rfl e41 e44 hrun) ⟨fun x h => (by cases h), by show ApG 53 7 Tm.vals we (D 0) (cond (D 17) (V 17) (cond (D 13) (V 13) (cond true (Value.slice A2 n2 c2) (V 0)))) (cond (D 17) (l.take a1 ++ [(ky, due)] ++ l.drop a1) (cond (D 13) (l.take a1 ++ [(ky, due)]) (cond true (l.take a1) []))) (D 12) (V 12) (ky, due) w2 ∧ ((D 18) = true → (V 18) = (V 17)); rw [hD0, hD13, hD17]; (try simp only [cond_false]); (try simp only [cond_true]); exact ⟨hn, fun e => (by rw [hD18] at e; cases e)⟩⟩
                · have e0 : ρ (.tmp 0) = .pointer (some ⟨rb, 0, none⟩) := hs 0; clear hT hF hk
                  exact Reg.Gives.value (v := .pointer (some ⟨rb, 0, none⟩)) (w' := wi) (by go_simp) ⟨fun x h => Option.some.inj h, hI⟩
                · have e46 : ρ (.tmp 46) = .pointer (some ⟨rb, 0, none⟩) := (hd 5 46).trans (hk 5 _ rfl); clear hT hF hk
                  exact Reg.Gives.value (v := .pointer (some ⟨rb, 0, none⟩)) (w' := wi) (by go_simp) ⟨fun x h => Option.some.inj h, hI⟩
                · have e47 : ρ (.tmp 47) = .pointer (some ⟨rb, 0, none⟩) := (hd 6 47).trans (hk 6 _ rfl); clear hT hF hk
                  exact Reg.Gives.value (v := .pointer (some ⟨rb, 1, none⟩)) (w' := wi) (by go_simp) ⟨fun x h => Option.some.inj h, hI⟩
                · have e48 : ρ (.tmp 48) = .pointer (some ⟨rb, 1, none⟩) := (hd 7 48).trans (hk 7 _ rfl); clear hT hF; have hL : Below we.heap.size we wi := hI.1.low; have x0 := HR1.out _ hL
                  exact Reg.Gives.value (v := .slice (some ⟨g, 0, none⟩) n ac) (w' := wi) (by go_simp) ⟨fun x h => Option.some.inj h, hI⟩
                · have e4 : ρ (.tmp 4) = .int .i64 (ii : Int) := hs 4; clear hT hF hk
                  exact Reg.Gives.value (v := .int .i64 (ii : Int)) (w' := wi) (by go_simp) ⟨fun x h => Option.some.inj h, hI⟩
                · have e49 : ρ (.tmp 49) = .slice (some ⟨g, 0, none⟩) n ac := (hd 8 49).trans (hk 8 _ rfl); have e50 : ρ (.tmp 50) = .int .i64 (ii : Int) := (hd 9 50).trans (hk 9 _ rfl); clear hT hF
                  have z1 : (0 : Int) ≤ (ii : Int) := by omega
                  have z2 : (ii : Int) < (n : Int) := by have := HI.out; omega
                  have z3 : ii < n := HI.out
                  exact Reg.Gives.value (v := .pointer (some ⟨g, ii * 7, none⟩)) (w' := wi) (by go_simp) ⟨fun x h => Option.some.inj h, hI⟩
                · have e51 : ρ (.tmp 51) = .pointer (some ⟨g, ii * 7, none⟩) := (hd 10 51).trans (hk 10 _ rfl); clear hT hF; have hL : Below we.heap.size we wi := hI.1.low; have hq := HT0.out _ hL; have q0 := hq 0 _ rfl
                  rw [Nat.add_zero] at q0
                  have q1 := hq 1 _ rfl; have q2 := hq 2 _ rfl; have q3 := hq 3 _ rfl; have q4 := hq 4 _ rfl; have q5 := hq 5 _ rfl; have q6 := hq 6 _ rfl
                  dsimp only [Tm.vals] at q0 q1 q2 q3 q4 q5 q6
                  exact Reg.Gives.value (v := .agg #[.int .i64 ky.kind, .int .i64 ky.cell, .int .i64 ky.node, .int .i64 ky.tn, .int .i64 ky.te, .int .i64 ky.ts, .int .i64 due]) (w' := wi) (by go_simp) ⟨fun x h => Option.some.inj h, hI⟩
                · have e52 : ρ (.tmp 52) = .agg #[.int .i64 ky.kind, .int .i64 ky.cell, .int .i64 ky.node, .int .i64 ky.tn, .int .i64 ky.te, .int .i64 ky.ts, .int .i64 due] := (hd 11 52).trans (hk 11 _ rfl); have hD12 : D 12 = false := hDi; clear hT hF; have h1 := hI.1
                  rw [hD12] at h1
                  exact Reg.Gives.value (v := .slice (some ⟨wi.heap.size, 0, none⟩) 1 1) (w' := wi.alloc (.cells #[.int .i64 ky.kind, .int .i64 ky.cell, .int .i64 ky.node, .int .i64 ky.tn, .int .i64 ky.te, .int .i64 ky.ts, .int .i64 due] 53)) (by go_simp) ⟨fun x h => (by cases h), by show ApG 53 7 Tm.vals we (D 0) (cond (D 17) (V 17) (cond (D 13) (V 13) (cond (D 4) (V 4) (V 0)))) (cond (D 17) (l.take a1 ++ [(ky, due)] ++ l.drop a1) (cond (D 13) (l.take a1 ++ [(ky, due)]) (cond (D 4) (l.take a1) []))) true (Value.slice (some ⟨wi.heap.size, 0, none⟩) 1 1) (ky, due) (wi.alloc (.cells #[.int .i64 ky.kind, .int .i64 ky.cell, .int .i64 ky.node, .int .i64 ky.tn, .int .i64 ky.te, .int .i64 ky.ts, .int .i64 due] 53)) ∧ ((D 18) = true → (V 18) = (V 17)); exact ⟨h1.mkx _ rfl, hI.2⟩⟩
                · have e45 : ρ (.tmp 45) = V 4 := hd 4 45; have e53 : ρ (.tmp 53) = V 12 := hd 12 53; have hD0 : D 0 = true := hT 2 0; have hD4 : D 4 = true := hT 1 4; have hD12 : D 12 = true := hT 1 12; have hD13 : D 13 = false := hDi; have hD17 : D 17 = false := hF 1 17; have hD18 : D 18 = false := hF 1 18; clear hT hF; have h1 := hI.1
                  rw [hD0, hD4, hD12, hD13, hD17] at h1
                  try simp only [cond_false] at h1
                  try simp only [cond_true] at h1
                  obtain ⟨g2, A2, n2, c2, w2, hx2, hrun, hn⟩ := ApG.one el_tm fit_tms h1 (by have := HQ.out; simp; omega)
                  rw [hx2] at e53
                  exact Reg.Gives.value (v := .slice A2 n2 c2) (w' := w2) (Reg.exec_append rfl e45 e53 hrun) ⟨fun x h => (by cases h), by show ApG 53 7 Tm.vals we (D 0) (cond (D 17) (V 17) (cond true (Value.slice A2 n2 c2) (cond (D 4) (V 4) (V 0)))) (cond (D 17) (l.take a1 ++ [(ky, due)] ++ l.drop a1) (cond true (l.take a1 ++ [(ky, due)]) (cond (D 4) (l.take a1) []))) (D 12) (V 12) (ky, due) w2 ∧ ((D 18) = true → (V 18) = (V 17)); rw [hD0, hD4, hD12, hD17]; (try simp only [cond_false]); (try simp only [cond_true]); exact ⟨hn, fun e => (by rw [hD18] at e; cases e)⟩⟩
                · have e3 : ρ (.tmp 3) = .slice (some ⟨gl, 0, none⟩) vn vc := hs 3; clear hT hF hk
                  exact Reg.Gives.value (v := .slice (some ⟨gl, 0, none⟩) vn vc) (w' := wi) (by go_simp) ⟨fun x h => Option.some.inj h, hI⟩
                · have e5 : ρ (.tmp 5) = .int .i64 (a1 : Int) := hs 5; clear hT hF hk
                  exact Reg.Gives.value (v := .int .i64 (a1 : Int)) (w' := wi) (by go_simp) ⟨fun x h => Option.some.inj h, hI⟩
                · have e55 : ρ (.tmp 55) = .slice (some ⟨gl, 0, none⟩) vn vc := (hd 14 55).trans (hk 14 _ rfl); have e56 : ρ (.tmp 56) = .int .i64 (a1 : Int) := (hd 15 56).trans (hk 15 _ rfl); clear hT hF; have z1 : a1 ≤ vn := HQ.out.1
                  have z2 : a1 ≤ vc := by have := HQ.out; omega
                  have z3 : (0 : Int) ≤ (a1 : Int) := by omega
                  have z4 : (a1 : Int) ≤ (vn : Int) := by have := HQ.out; omega
                  have z5 := HAD.out
                  exact Reg.Gives.value (v := .slice (some AD) (vn - a1) (vc - a1)) (w' := wi) (by go_simp) ⟨fun x h => Option.some.inj h, hI⟩
                · have e54 : ρ (.tmp 54) = V 13 := hd 13 54; have e57 : ρ (.tmp 57) = .slice (some AD) (vn - a1) (vc - a1) := (hd 16 57).trans (hk 16 _ rfl); have hD0 : D 0 = true := hT 3 0; have hD4 : D 4 = true := hT 2 4; have hD13 : D 13 = true := hT 1 13; have hD17 : D 17 = false := hDi; have hD18 : D 18 = false := hF 1 18; clear hT hF; have h1 := hI.1
                  rw [hD0, hD4, hD13, hD17] at h1
                  try simp only [cond_false] at h1
                  try simp only [cond_true] at h1
                  obtain ⟨A2, n2, c2, w2, hrun, hn⟩ := ApG.app el_tm fit_tms h1 (m := l.drop a1) (HDS.out wi h1.low) (fun e => by cases e) (by have := HQ.out; simp; omega)
                  rw [HQ.out.2.2.2.2] at hrun
                  exact Reg.Gives.value (v := .slice A2 n2 c2) (w' := w2) (Reg.exec_append rfl e54 e57 hrun) ⟨fun x h => (by cases h), by show ApG 53 7 Tm.vals we (D 0) (cond true (Value.slice A2 n2 c2) (cond (D 13) (V 13) (cond (D 4) (V 4) (V 0)))) (cond true (l.take a1 ++ [(ky, due)] ++ l.drop a1) (cond (D 13) (l.take a1 ++ [(ky, due)]) (cond (D 4) (l.take a1) []))) (D 12) (V 12) (ky, due) w2 ∧ ((D 18) = true → (V 18) = (Value.slice A2 n2 c2)); rw [hD0, hD4, hD13]; (try simp only [cond_false]); (try simp only [cond_true]); exact ⟨hn, fun e => (by rw [hD18] at e; cases e)⟩⟩
                · have e58 : ρ (.tmp 58) = V 17 := hd 17 58; clear hT hF; have h1 := hI.1
                  exact Reg.Gives.value (v := V 17) (w' := wi) (by go_simp) ⟨fun x h => (by cases h), by show ApG 53 7 Tm.vals we (D 0) (cond (D 17) (V 17) (cond (D 13) (V 13) (cond (D 4) (V 4) (V 0)))) (cond (D 17) (l.take a1 ++ [(ky, due)] ++ l.drop a1) (cond (D 13) (l.take a1 ++ [(ky, due)]) (cond (D 4) (l.take a1) []))) (D 12) (V 12) (ky, due) wi ∧ (true = true → (V 17) = (V 17)); exact ⟨h1, fun _ => rfl⟩⟩
              · intro V wf hk hI
                simp only [Reg.putsO, List.foldl_cons, List.foldl_nil, Act.put, List.setIfInBounds_toArray, List.set_cons_succ, List.set_cons_zero]
                replace hI : ApG 53 7 Tm.vals we true (cond true (V 17) (cond true (V 13) (cond true (V 4) (V 0)))) (cond true (l.take a1 ++ [(ky, due)] ++ l.drop a1) (cond true (l.take a1 ++ [(ky, due)]) (cond true (l.take a1) []))) true (V 12) (ky, due) wf ∧ (true = true → (V 18) = (V 17)) := hI
                clear hk
                obtain ⟨hap, h18⟩ := hI
                try simp only [cond_true] at hap
                rw [HINS.out] at hap
                have hac := hap.acc rfl
                have hlo := hap.low
                obtain ⟨A2, c2, hv⟩ := row_slice hac
                have hne : (insT (ky, due) l).length ≠ 0 := by rw [insT_len]; omega
                obtain ⟨g2, rfl⟩ : ∃ g2, A2 = some ⟨g2, 0, none⟩ := by
                  rcases hac.2 with ⟨_, h0⟩ | ⟨g2, cap, cur, h1, _⟩
                  · exact absurd h0 hne
                  · rw [hv] at h1
                    simp only [Value.slice.injEq] at h1
                    exact ⟨g2, h1.1⟩
                obtain ⟨n2, hn2⟩ : ∃ n2, (insT (ky, due) l).length = n2 := ⟨_, rfl⟩
                rw [hn2] at hv
                have HNX : Hid (Rw w.heap.size wf g2 n2 c2 (sortD (l0.take (ii + 1)))) := Lib.hid ⟨by
                  rw [HLN.out]
                  have h1 := own_up HWE.out hac
                  rw [hv] at h1
                  exact h1⟩
                have HBX := Lib.hid ((HBO.out.trans (HB8.out.mono HBO.out.size)).trans (hlo.mono HWE.out))
                rw [h18 rfl, hv]
                clear hap h18 hac hlo hv hne hn2
                go_wp2_with fail
                go_roundw
                case rel => exact ⟨ii + 1, g2, n2, c2, by omega, by go_num, rfl, HNX, HBX⟩
                case measure => simp [intOf]; omega
    · obtain rfl : ii = n := by omega
      have hfin : l0.take ii = l0 := List.take_of_length_le (by rw [HN.out]; exact Nat.le_refl _)
      rw [hfin] at HRW
      obtain ⟨L, hL⟩ : ∃ L, sortD l0 = L := ⟨_, rfl⟩
      rw [hL] at HRW
      have HLL := Lib.hid hL
      have hll : L.length ≤ 256 := by rw [← hL, (sortD_perm _).length_eq, HN.out]; exact hn256
      obtain ⟨wo, hwo⟩ : ∃ W, W = wr := ⟨_, rfl⟩
      subst hwo
      have HBO := Lib.hid HB.out
      have HVN := Lib.hid HRW.out.len.1
      have hvn256 : vn ≤ 256 := by have := HVN.out; omega
      obtain ⟨wy, hwy⟩ : ∃ W, W = wo.alloc (.cells #[] 41) := ⟨_, rfl⟩
      have hby : Below wo.heap.size wo wy := by rw [hwy]; exact below_alloc _ _
      have HOY : Hid (OwnG 41 6 Ky.vals wo.heap.size wy (.slice (some ⟨wo.heap.size, 0, none⟩) 0 0) []) := Lib.hid (by
        rw [hwy]
        exact World.ownsRow_made (base := wo.heap.size) wo #[] 0 (Nat.le_refl _) (Nat.zero_le _) (by simp))
      have HBY := Lib.hid hby
      clear hfin hL hr HB hby
      go_upto_region 10 with (fail)
      rw [← hwy]
      clear hwy c1
      go_wp2_with fail
      go_loopw [6, 7] (fun x i wq => ∃ (k : Nat) (Vo : Option Addr) (on oc : Nat), k ≤ vn ∧ i = .int .i64 (k : Int) ∧ x = .slice Vo on oc ∧ Hid (OwnG 41 6 Ky.vals wo.heap.size wq (.slice Vo on oc) ((L.take k).map (·.1))) ∧ Hid (Below wo.heap.size wo wq)) (fun _ i _ => vn - (intOf i).toNat)
      case atStart => exact ⟨0, some ⟨wo.heap.size, 0, none⟩, 0, 0, Nat.zero_le _, rfl, rfl, HOY, HBY⟩
      case round =>
        clear HOY HBY
        obtain ⟨k, Vo, on, oc, hkn, rfl, rfl, HO, HB⟩ := hrel
        by_cases hlk : k < vn
        · have hkl : k < L.length := by have := HVN.out; omega
          obtain ⟨⟨p, due⟩, hp⟩ : ∃ p, L[k] = p := ⟨_, rfl⟩
          have hr := (HRW.out.later HB.out).at (show L[k]? = some (p, due) by rw [List.getElem?_eq_getElem hkl, hp])
          have x0 := hr 0 _ rfl
          rw [Nat.add_zero] at x0
          have x1 := hr 1 _ rfl
          have x2 := hr 2 _ rfl
          have x3 := hr 3 _ rfl
          have x4 := hr 4 _ rfl
          have x5 := hr 5 _ rfl
          dsimp only [Tm.vals] at x0 x1 x2 x3 x4 x5
          have HT : Hid ((L.take (k + 1)).map (·.1) = (L.take k).map (·.1) ++ [p]) := Lib.hid (by rw [List.take_succ_eq_append_getElem hkl, hp, List.map_append]; rfl)
          obtain ⟨V', vn', vc', wu, hrun, hrow, hbu⟩ := OwnG.more el_key fit_ks HO.out p #[.int .i64 p.kind, .int .i64 p.cell, .int .i64 p.node, .int .i64 p.tn, .int .i64 p.te, .int .i64 p.ts] rfl HB.out.size (by rw [List.length_map, List.length_take]; omega)
          have HRUN := Lib.hid hrun
          have HNX : Hid (OwnG 41 6 Ky.vals wo.heap.size wu (.slice V' vn' vc') ((L.take (k + 1)).map (·.1))) := Lib.hid (by rw [HT.out]; exact hrow)
          have HBU := Lib.hid (HB.out.trans hbu)
          clear hkl hp hrun hrow hbu hr
          go_wp2_with (at_builtin
                       refine Lib.wpList_append_run (wr.alloc (.cells #[.int .i64 p.kind, .int .i64 p.cell, .int .i64 p.node, .int .i64 p.tn, .int .i64 p.te, .int .i64 p.ts] 41)) rfl (.tmp 66) (.tmp 72) 45 45 rfl (.slice Vo on oc) (.slice (some ⟨wr.heap.size, 0, none⟩) 1 1) rfl rfl _ _ HRUN.out ?_)
          go_roundw
          case rel => exact ⟨k + 1, V', vn', vc', by omega, by go_num, rfl, HNX, HBU⟩
          case measure => simp [intOf]; omega
        · obtain rfl : k = vn := by omega
          have HF : Hid (OwnG 41 6 Ky.vals w.heap.size wr (.slice Vo on oc) (L.map (·.1))) := Lib.hid (by
            have h1 := HO.out
            rw [List.take_of_length_le (by have := HVN.out; omega)] at h1
            exact own_up HBO.out.size h1)
          go_wp2_with fail
          go_returns
          rw [HLL.out]
          exact ⟨_, rfl, HF.out, HBO.out.trans (HB.out.mono HBO.out.size)⟩
end Go.Proofs.Ytnbdgjaekjneaaa.Whl
