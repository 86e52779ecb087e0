/-
  Layer 19: the law's plain; the document's New.
  Conditions: none.
-/
import Derived.Test.YtjeogeablbkhgaaP50
import Derived.Test.YtjeogeablbkhgaaP51
namespace Go.Proofs.Ytjeogeablbkhgaa.Vot
set_option maxRecDepth 100000
open Go.RowKit Go.Deep Go.Proofs.Ytjeogeablbkhgaa.Mem Go.Proofs.Ytjeogeablbkhgaa.Item
set_option maxHeartbeats 1000000 in
theorem plain_any {w : World} {O : Option Addr} {ps : List Sd} {oc : Nat} (h : Parts w O ps) (hl : ps.length ≤ 40) (hf : ∀ s ∈ ps, s.yes = false ∧ s.ack = false) :
    Calls Try.prog 11 #[.slice O ps.length oc] w fun e w' => (∃ V n vc, e = .returned (.slice V n vc) ∧ OwnG 70 4 Sd.vals w.heap.size w' (.slice V n vc) ps) ∧ Below w.heap.size w w' := by
  have HH := Lib.hid h
  have HFL := Lib.hid hf
  obtain ⟨n, hn⟩ : ∃ n, ps.length = n := ⟨_, rfl⟩
  rw [hn] at hl ⊢
  have HN := Lib.hid hn
  clear h hn hf
  go_enter Try.func11, Try.ntmps11
  go_wp2_with fail
  go_loopw [3, 5, 8] (fun v _ i wr => ∃ (k : Nat) (V : Option Addr) (nn vc : Nat), k ≤ n ∧ i = .int .i64 (k : Int) ∧ v = .slice V nn vc ∧ Hid (OwnG 70 4 Sd.vals w.heap.size wr (.slice V nn vc) (ps.take k)) ∧ Hid (Below w.heap.size w wr)) (fun _ _ i _ => n - (intOf i).toNat)
  case atStart => exact ⟨0, none, 0, 0, Nat.zero_le _, rfl, rfl, Lib.hid (by rw [List.take_zero]; exact OwnG.nil _ _ _ _ _), Lib.hid (Below.refl _ _)⟩
  case round =>
    obtain ⟨k, V, nn, vc, hk, rfl, rfl, HV, HB⟩ := hrel
    by_cases hlt : k < n
    · have hkl : k < ps.length := by rw [HN.out]; exact hlt
      obtain ⟨g, off, rfl, hr⟩ := (HH.out.later HB.out).at hkl
      have hM := List.getElem_mem hkl
      obtain ⟨s, hs⟩ : ∃ s, ps[k] = s := ⟨_, rfl⟩
      have HTM := Lib.hid (take_more hkl hs)
      rw [hs] at hr hM
      have HFS := Lib.hid (HFL.out s hM)
      have x0 : wr.cell? ⟨g, off + k * 2, none⟩ = _ := hr 0 _ rfl
      have x1 := hr 1 _ rfl
      obtain ⟨hbb, hcb⟩ := copy_part wr s
      obtain ⟨m, hm⟩ : ∃ m, s.its.length = m := ⟨_, rfl⟩
      have HMM := Lib.hid hm
      unfold pv at hcb
      rw [hm] at x1 hbb hcb
      obtain ⟨wb, hwb⟩ : ∃ W, W = wr.alloc (.cells #[.int .i64 s.node, .slice s.A m s.c] 55) := ⟨_, rfl⟩
      rw [← hwb] at hbb hcb
      have y0 : wb.cell? ⟨wr.heap.size, 0, none⟩ = _ := hcb.cell (j := 0) rfl
      have y1 := hcb.cell (j := 1) rfl
      have HB2 := Lib.hid (HB.out.trans (hbb.mono HB.out.size))
      obtain ⟨V', n', vc', w5, hrun, hrow, hbe⟩ := OwnG.more el_part fit_sd (HV.out.later hbb) s #[.int .i64 s.node, .slice s.A m s.c, .bool false, .bool false] (by unfold Sd.vals; rw [HFS.out.1, HFS.out.2, hm]) HB2.out.size (by rw [List.length_take]; omega)
      have HV5 := Lib.hid (show OwnG 70 4 Sd.vals w.heap.size w5 (.slice V' n' vc') (ps.take (k + 1)) by rw [HTM.out]; exact hrow)
      have HB5 := Lib.hid (HB2.out.trans hbe)
      have HRUN := Lib.hid hrun
      clear hkl hr hM hs hbb hcb hm hrun hrow hbe HV HB HB2
      go_upto_region 5 with (fail)
      rw [← hwb]
      clear hwb x0 x1
      go_wp2_with (at_builtin
                   refine Lib.wpList_append_run (wb.alloc (.cells #[.int .i64 s.node, .slice s.A m s.c, .bool false, .bool false] 70)) rfl (.tmp 12) (.tmp 18) 34 34 rfl (.slice V nn vc) (.slice (some ⟨wb.heap.size, 0, none⟩) 1 1) rfl rfl _ _ HRUN.out ?_)
      go_roundw
      case rel => exact ⟨k + 1, V', n', vc', by omega, by go_num, rfl, HV5, HB5⟩
      case measure => simp [intOf]; omega
    · obtain rfl : k = n := by omega
      have HF : Hid (OwnG 70 4 Sd.vals w.heap.size wr (.slice V nn vc) ps) := Lib.hid (by have h1 := HV.out; rwa [List.take_of_length_le (Nat.le_of_eq HN.out)] at h1)
      go_wp2_with fail
      go_returns
      exact ⟨⟨V, nn, vc, rfl, HF.out⟩, HB.out⟩
/-- The new ballot's box, its parts apart from it. -/
structure RnS (we : World) (t : Tid) (ps : List Sd) (v3 v5 : Value) (W : World) : Prop where
  low : Below we.heap.size we W
  box : ∃ gk A3 n3 c3, v5 = .pointer (some ⟨gk, 0, none⟩) ∧ v3 = .slice A3 n3 c3 ∧ we.heap.size ≤ gk ∧ OwnG 70 4 Sd.vals we.heap.size W (.slice A3 n3 c3) ps ∧ blk A3 ≠ some gk ∧ Cells W gk 41 [.int .i64 t.node, .int .i64 t.epoch, .int .i64 t.seq, .slice A3 n3 c3, .int .i64 0]
theorem box_made {we W : World} {t : Tid} {ps : List Sd} {v : Value} {p : Sd} {vx : Value} {A2 : Option Addr} {n2 c2 : Nat} (h : ApG 70 4 Sd.vals we true v ps false vx p W) (hv : v = .slice A2 n2 c2) :
    RnS we t ps v (.pointer (some ⟨W.heap.size, 0, none⟩)) (W.alloc (.cells #[.int .i64 t.node, .int .i64 t.epoch, .int .i64 t.seq, .slice A2 n2 c2, .int .i64 0] 41)) := by
  have hb := below_alloc W (.cells #[.int .i64 t.node, .int .i64 t.epoch, .int .i64 t.seq, .slice A2 n2 c2, .int .i64 0] 41)
  have ha : OwnG 70 4 Sd.vals we.heap.size W v ps := h.acc rfl
  subst hv
  refine ⟨h.low.trans (hb.mono h.low.size), W.heap.size, A2, n2, c2, rfl, rfl, h.low.size, ha.later hb, fun e => ?_, cells_new W 41 _ _ rfl⟩
  have := (ha.lt (by rw [own_blk]; exact e)).2
  omega
theorem low_of {we W : World} {d : Bool} (h1 : d = false → Below we.heap.size we W) (h2 : d = true → Below we.heap.size we W) : Below we.heap.size we W := by
  cases d with
  | true => exact h2 rfl
  | false => exact h1 rfl
theorem not_apart {ps : List Sd} {i k : Nat} (hi : i < ps.length) (hk : k < i) {x y : It} (hx : x ∈ (ps[k]'(by omega)).its) (hy : y ∈ ps[i].its) (e : x.cell = y.cell) : okParts ps = false := by
  cases ho : okItems ps with
  | false => unfold okParts; rw [ho]; rfl
  | true =>
    have : ¬ (cellsOf ps).Nodup := fun hn => by
      have hp := List.pairwise_iff_getElem.1 ((nodup_apart ho).1 hn) k i (by rw [List.length_map]; omega) (by rw [List.length_map]; omega) hk
      simp only [List.getElem_map] at hp
      exact hp x hx y hy e
    unfold okParts
    rw [decide_eq_false this, Bool.and_false]
theorem ok_of {ps : List Sd} (h1 : okItems ps = true) (h2 : (ps.map (·.its)).Pairwise Apart) (h3 : rightNodes (ps.map (·.node)) = true) : okParts ps = true := by
  unfold okParts
  rw [h1, h3, decide_eq_true ((nodup_apart h1).2 h2)]
  rfl
theorem ok_small {ps : List Sd} (h : okParts ps = true) : Small ps := fun s hs x hx => by
  unfold okParts at h
  rw [Bool.and_eq_true, Bool.and_eq_true] at h
  have h1 := h.1.1
  unfold okItems at h1
  rw [List.all_eq_true] at h1
  have h2 := h1 s hs
  unfold rightItems at h2
  rw [Bool.and_eq_true] at h2
  have h3 : ∀ (l : List It) (a : Int), rightFrom a l = true → ∀ x ∈ l, rightIt x = true := fun l => by
    induction l with
    | nil => intro a _ x hx; cases hx
    | cons y l ih =>
      intro a h x hx
      unfold rightFrom at h
      rw [Bool.and_eq_true, Bool.and_eq_true] at h
      rcases List.mem_cons.1 hx with rfl | hx
      · exact h.1.2
      · exact ih _ h.2 x hx
  have h4 := h3 _ _ h2.1 x hx
  unfold rightIt at h4
  have := of_decide_eq_true h4
  exact ⟨this.1, this.2.1⟩
theorem find_hit {l : List It} {c : Int} (h : 0 ≤ findI l c) : ∃ x ∈ l, x.cell = c := by
  have h1 := (findI_none_iff l c).2 h
  cases hf : l.find? (fun x => x.cell == c) with
  | none => exact absurd hf h1
  | some x => exact ⟨x, List.mem_of_find?_eq_some hf, by have := List.find?_some hf; simpa using this⟩
theorem find_no {l : List It} {c : Int} (h : findI l c < 0) : ∀ x ∈ l, x.cell ≠ c := fun x hx e => by
  have h1 := (findI_none_iff l c).1 h
  rw [List.find?_eq_none] at h1
  exact h1 x hx (by simpa using e)
/-- What the document's New gives. -/
def RNewOut (t : Tid) (ps : List Sd) (w : World) (e : Ending) (w' : World) : Prop :=
  Below w.heap.size w w' ∧ ((rightTid t && okParts ps) = false → e = .returned (.pointer none)) ∧
  ((rightTid t && okParts ps) = true → ∃ g A c, e = .returned (.pointer (some ⟨g, 0, none⟩)) ∧ DAt w.heap.size w'.heap.size w' g A c t (stC false ps) ps)
set_option maxHeartbeats 4000000 in
theorem RNew_any {w : World} {Q : Option Addr} {ps : List Sd} {qc : Nat} (t : Tid) (hq : Sl w Q 4 (ps.map Sd.vals)) (hqn : Q = none → qc = 0) (hit : ∀ s ∈ ps, Items w s.A s.its ∧ (s.A = none → s.c = 0) ∧ s.its.length ≤ 40) (hl : ps.length ≤ 40) (hf : ∀ s ∈ ps, s.yes = false ∧ s.ack = false) :
    Calls Try.prog 10 #[.agg #[.int .i64 t.node, .int .i64 t.epoch, .int .i64 t.seq], .slice Q ps.length qc] w (RNewOut t ps w) := by
  obtain ⟨we, hwe⟩ : ∃ W, W = w.alloc (.cells #[.int .i64 t.node, .int .i64 t.epoch, .int .i64 t.seq] 23) := ⟨_, rfl⟩
  have hba : Below w.heap.size w we := by rw [hwe]; exact below_alloc _ _
  have hca : Cells we w.heap.size 23 [.int .i64 t.node, .int .i64 t.epoch, .int .i64 t.seq] := by rw [hwe]; exact cells_new _ _ _ _ rfl
  obtain ⟨p0, hp0⟩ : ∃ p : Sd, p = ⟨0, none, 0, [], false, false⟩ := ⟨_, rfl⟩
  obtain ⟨n, hn⟩ : ∃ n, ps.length = n := ⟨_, rfl⟩
  obtain ⟨tb, htb⟩ : ∃ b, w.heap.size = b := ⟨_, rfl⟩
  have HTB0 : Hid (tb = w.heap.size) := Lib.hid htb.symm
  rw [htb] at hca
  have HTB : Hid (∀ W, Below we.heap.size we W → Cells W tb 23 [.int .i64 t.node, .int .i64 t.epoch, .int .i64 t.seq]) := Lib.hid fun W hb => hca.later hb
  have HQS : Hid ((∀ W, Below we.heap.size we W → Sl W Q 4 (ps.map Sd.vals)) ∧ (Q = none → qc = 0)) := Lib.hid ⟨fun W hb => (hq.later hba).later hb, hqn⟩
  have HIT : Hid (∀ W, Below w.heap.size w W → ∀ s ∈ ps, Items W s.A s.its ∧ (s.A = none → s.c = 0) ∧ s.its.length ≤ 40) := Lib.hid fun W hb s hs => ⟨(hit s hs).1.later hb, (hit s hs).2⟩
  have HIL : Hid (∀ s ∈ ps, s.its ≠ [] → ∀ k, blk s.A = some k → k < w.heap.size) := Lib.hid fun s hs hne k e => by
    obtain ⟨b, off, e2, hi⟩ := (hit s hs).1 0 (List.length_pos_iff.2 hne)
    rw [e2] at e
    have e3 : b = k := Option.some.inj e
    rw [← e3]
    exact hi.lt
  have HLN : Hid (ps.length = n ∧ ps.length ≤ 40) := Lib.hid ⟨hn, hl⟩
  have HFL := Lib.hid hf
  have HBA := Lib.hid hba
  rw [hn] at hl ⊢
  clear hq hqn hit hn hf hba hca hp0
  go_enter Try.func10, Try.ntmps10
  go_upto_region 1 with (fail)
  rw [← hwe]
  clear hwe htb
  refine Reg.region_inv (by kernel_rfl) (fun i => ([some (.agg #[.int .i64 t.node, .int .i64 t.epoch, .int .i64 t.seq]), none, some (.slice Q n qc), none, none, none, none] : List (Option Value)).getD i none) (fun D V W => ((D 5) = false → ApG 70 4 Sd.vals we (D 1) (cond (D 3) (V 3) (V 1)) (cond (D 3) ps []) false (.bool false) p0 (W)) ∧ ((D 4) = true → (V 4) = Value.agg #[.int .i64 t.node, .int .i64 t.epoch, .int .i64 t.seq, (V 3), .int .i64 0]) ∧ ((D 5) = true → RnS we t ps (V 3) (V 5) (W)) ∧ ((D 6) = true → (V 6) = (V 5) ∧ (D 5) = true)) (fun V => [(some 10, V 0), (some 11, V 1), (some 12, V 2), (some 13, V 3), (some 14, V 4), (some 15, V 5), (some 5, V 6)]) (by kernel_rfl) (by kernel_rfl) (fun V => rfl) ?_ ?_ ?_
  · intro V
    exact ⟨fun _ => ApG.start (Below.refl _ _).drew _ _ _ _, fun e => (by cases e), fun e => (by cases e), fun e => (by cases e)⟩
  · intro i o ho
    have hi : i < 7 := (Array.getElem?_eq_some_iff.1 ho).1
    rcases i with _ | _ | _ | _ | _ | _ | _ | i
    rotate_right
    · omega
    all_goals obtain rfl := Option.some.inj ho
    all_goals intro D V ρ wi hE hI hDi hT hF hs hd hk
    · have e2 : ρ (.tmp 2) = .pointer (some ⟨tb, 0, none⟩) := hs 2; clear hT hF; have hq := HTB.out wi (low_of (fun e => (hI.1 e).low) fun e => (hI.2.2.1 e).low); have q0 := hq.cell (j := 0) rfl; have q1 := hq.cell (j := 1) rfl; have q2 := hq.cell (j := 2) rfl
      exact Reg.Gives.value (v := .agg #[.int .i64 t.node, .int .i64 t.epoch, .int .i64 t.seq]) (w' := wi) (by go_simp) ⟨fun x h => Option.some.inj h, hI⟩
    · have hD1 : D 1 = false := hDi; have hD3 : D 3 = false := hF 1 3; have hD4 : D 4 = false := hF 2 4; have hD5 : D 5 = false := hF 3 5; have hD6 : D 6 = false := hF 1 6; clear hT hF; obtain ⟨h1, h4, h5, h6⟩ := hI; have g1 := h1 hD5
      rw [hD1, hD3] at g1
      simp only [cond_false] at g1
      exact Reg.Gives.value (v := .slice (some ⟨wi.heap.size, 0, none⟩) 0 0) (w' := wi.alloc (.cells #[] 70)) (by go_simp) ⟨fun x h => (by cases h), by show ((D 5) = false → ApG 70 4 Sd.vals we (true) (cond (D 3) (V 3) (.slice (some ⟨wi.heap.size, 0, none⟩) 0 0)) (cond (D 3) ps []) false (.bool false) p0 (wi.alloc (.cells #[] 70))) ∧ ((D 4) = true → (V 4) = Value.agg #[.int .i64 t.node, .int .i64 t.epoch, .int .i64 t.seq, (V 3), .int .i64 0]) ∧ ((D 5) = true → RnS we t ps (V 3) (V 5) (wi.alloc (.cells #[] 70))) ∧ ((D 6) = true → (V 6) = (V 5) ∧ (D 5) = true); rw [hD3, hD4, hD5, hD6]; simp only [cond_false]; exact ⟨fun _ => g1.mkz, fun e => (by cases e), fun e => (by cases e), fun e => (by cases e)⟩⟩
    · have e1 : ρ (.tmp 1) = .slice Q n qc := hs 1; clear hT hF hk
      exact Reg.Gives.value (v := .slice Q n qc) (w' := wi) (by go_simp) ⟨fun x h => Option.some.inj h, hI⟩
    · have e11 : ρ (.tmp 11) = V 1 := hd 1 11; have e12 : ρ (.tmp 12) = .slice Q n qc := (hd 2 12).trans (hk 2 _ rfl); have hD1 : D 1 = true := hT 1 1; have hD3 : D 3 = false := hDi; have hD4 : D 4 = false := hF 1 4; have hD5 : D 5 = false := hF 2 5; have hD6 : D 6 = false := hF 1 6; clear hT hF; obtain ⟨h1, h4, h5, h6⟩ := hI; have g1 := h1 hD5
      rw [hD1, hD3] at g1
      simp only [cond_false] at g1
      obtain ⟨A2, n2, c2, w2, hrun, hn⟩ := ApG.app el_part fit_sd g1 (m := ps) (HQS.out.1 wi g1.low) HQS.out.2 (by have := HLN.out.2; simp; omega)
      rw [HLN.out.1] at hrun
      rw [List.nil_append] at hn
      exact Reg.Gives.value (v := .slice A2 n2 c2) (w' := w2) (Reg.exec_append rfl e11 e12 hrun) ⟨fun x h => (by cases h), by show ((D 5) = false → ApG 70 4 Sd.vals we (D 1) (cond (true) (.slice A2 n2 c2) (V 1)) (cond (true) ps []) false (.bool false) p0 (w2)) ∧ ((D 4) = true → (V 4) = Value.agg #[.int .i64 t.node, .int .i64 t.epoch, .int .i64 t.seq, (.slice A2 n2 c2), .int .i64 0]) ∧ ((D 5) = true → RnS we t ps (.slice A2 n2 c2) (V 5) (w2)) ∧ ((D 6) = true → (V 6) = (V 5) ∧ (D 5) = true); rw [hD1, hD4, hD5, hD6]; simp only [cond_true]; exact ⟨fun _ => hn, fun e => (by cases e), fun e => (by cases e), fun e => (by cases e)⟩⟩
    · have e10 : ρ (.tmp 10) = .agg #[.int .i64 t.node, .int .i64 t.epoch, .int .i64 t.seq] := (hd 0 10).trans (hk 0 _ rfl); have e13 : ρ (.tmp 13) = V 3 := hd 3 13; have hD1 : D 1 = true := hT 2 1; have hD3 : D 3 = true := hT 1 3; have hD5 : D 5 = false := hF 1 5; have hD6 : D 6 = false := hF 1 6; clear hT hF; obtain ⟨h1, h4, h5, h6⟩ := hI; have g1 := h1 hD5
      rw [hD1, hD3] at g1
      simp only [cond_true] at g1
      obtain ⟨A2, c2, hv3⟩ := row_slice (g1.acc rfl)
      rw [hv3] at e13
      exact Reg.Gives.value (v := .agg #[.int .i64 t.node, .int .i64 t.epoch, .int .i64 t.seq, V 3, .int .i64 0]) (w' := wi) (by rw [hv3]; go_simp) ⟨fun x h => (by cases h), by show ((D 5) = false → ApG 70 4 Sd.vals we (D 1) (cond (D 3) (V 3) (V 1)) (cond (D 3) ps []) false (.bool false) p0 (wi)) ∧ ((true) = true → (Value.agg #[.int .i64 t.node, .int .i64 t.epoch, .int .i64 t.seq, V 3, .int .i64 0]) = Value.agg #[.int .i64 t.node, .int .i64 t.epoch, .int .i64 t.seq, (V 3), .int .i64 0]) ∧ ((D 5) = true → RnS we t ps (V 3) (V 5) (wi)) ∧ ((D 6) = true → (V 6) = (V 5) ∧ (D 5) = true); rw [hD5, hD6]; exact ⟨fun _ => h1 hD5, fun _ => rfl, fun e => (by cases e), fun e => (by cases e)⟩⟩
    · have e14 : ρ (.tmp 14) = V 4 := hd 4 14; have hD1 : D 1 = true := hT 3 1; have hD3 : D 3 = true := hT 2 3; have hD4 : D 4 = true := hT 1 4; have hD5 : D 5 = false := hDi; have hD6 : D 6 = false := hF 1 6; clear hT hF; obtain ⟨h1, h4, h5, h6⟩ := hI; have g1 := h1 hD5
      rw [hD1, hD3] at g1
      simp only [cond_true] at g1
      obtain ⟨A2, c2, hv3⟩ := row_slice (g1.acc rfl); obtain ⟨n2, hn2⟩ : ∃ q, ps.length = q := ⟨_, rfl⟩
      rw [hn2] at hv3
      rw [h4 hD4, hv3] at e14
      exact Reg.Gives.value (v := .pointer (some ⟨wi.heap.size, 0, none⟩)) (w' := wi.alloc (.cells #[.int .i64 t.node, .int .i64 t.epoch, .int .i64 t.seq, .slice A2 n2 c2, .int .i64 0] 41)) (by go_simp) ⟨fun x h => (by cases h), by show ((true) = false → ApG 70 4 Sd.vals we (D 1) (cond (D 3) (V 3) (V 1)) (cond (D 3) ps []) false (.bool false) p0 (wi.alloc (.cells #[.int .i64 t.node, .int .i64 t.epoch, .int .i64 t.seq, .slice A2 n2 c2, .int .i64 0] 41))) ∧ ((D 4) = true → (V 4) = Value.agg #[.int .i64 t.node, .int .i64 t.epoch, .int .i64 t.seq, (V 3), .int .i64 0]) ∧ ((true) = true → RnS we t ps (V 3) (.pointer (some ⟨wi.heap.size, 0, none⟩)) (wi.alloc (.cells #[.int .i64 t.node, .int .i64 t.epoch, .int .i64 t.seq, .slice A2 n2 c2, .int .i64 0] 41))) ∧ ((D 6) = true → (V 6) = (.pointer (some ⟨wi.heap.size, 0, none⟩)) ∧ (true) = true); rw [hD4, hD6]; exact ⟨fun e => (by cases e), h4 |> fun k e => k (by rw [hD4]), fun _ => box_made g1 hv3, fun e => (by cases e)⟩⟩
    · have e15 : ρ (.tmp 15) = V 5 := hd 5 15; have hD5 : D 5 = true := hT 1 5; clear hT hF; obtain ⟨h1, h4, h5, h6⟩ := hI
      exact Reg.Gives.value (v := V 5) (w' := wi) (by go_simp) ⟨fun x h => (by cases h), by show ((D 5) = false → ApG 70 4 Sd.vals we (D 1) (cond (D 3) (V 3) (V 1)) (cond (D 3) ps []) false (.bool false) p0 (wi)) ∧ ((D 4) = true → (V 4) = Value.agg #[.int .i64 t.node, .int .i64 t.epoch, .int .i64 t.seq, (V 3), .int .i64 0]) ∧ ((D 5) = true → RnS we t ps (V 3) (V 5) (wi)) ∧ ((true) = true → (V 5) = (V 5) ∧ (D 5) = true); exact ⟨h1, h4, h5, fun _ => ⟨rfl, hD5⟩⟩⟩
  · intro V wf hk hI
    simp only [Reg.putsO, List.foldl_cons, List.foldl_nil, Act.put, List.setIfInBounds_toArray, List.set_cons_succ, List.set_cons_zero]
    replace hI : (true = false → ApG 70 4 Sd.vals we true (cond true (V 3) (V 1)) (cond true ps []) false (.bool false) p0 (wf)) ∧ (true = true → (V 4) = Value.agg #[.int .i64 t.node, .int .i64 t.epoch, .int .i64 t.seq, (V 3), .int .i64 0]) ∧ (true = true → RnS we t ps (V 3) (V 5) (wf)) ∧ (true = true → (V 6) = (V 5) ∧ true = true) := hI
    clear hk
    obtain ⟨_, _, h5, h6⟩ := hI
    obtain ⟨hlow, gk, A3, n3, c3, hv5, hv3, hgk, hrow, hfar, hbox⟩ := h5 rfl
    rw [(h6 rfl).1, hv5]
    have HBW := Lib.hid (HBA.out.trans (hlow.mono HBA.out.size))
    have HROW := Lib.hid hrow
    have HBOX := Lib.hid hbox
    have HGK : Hid (w.heap.size ≤ we.heap.size ∧ we.heap.size ≤ gk ∧ blk A3 ≠ some gk ∧ n3 = n) := Lib.hid ⟨HBA.out.size, hgk, hfar, by rw [(OwnG.sl fit_sd hrow).1]; exact HLN.out.1⟩
    have HTB1 := Lib.hid (HTB.out wf hlow)
    have HSQ : Hid (∀ W, Below wf.heap.size wf W → Sl W Q 4 (ps.map Sd.vals)) := Lib.hid fun W hb => HQS.out.1 W (hlow.trans (hb.mono hlow.size))
    obtain ⟨w1, hw1⟩ : ∃ W, W = wf.alloc (.cells #[] 3) := ⟨_, rfl⟩
    have hb1 : Below wf.heap.size wf w1 := by rw [hw1]; exact below_alloc _ _
    have ho1 : OwnG 3 1 nv wf.heap.size w1 (.slice (some ⟨wf.heap.size, 0, none⟩) 0 0) [] := by rw [hw1]; exact World.ownsRow_made (base := wf.heap.size) (e := 3) (size := 1) wf #[] 0 (Nat.le_refl _) (Nat.zero_le _) rfl
    have HO1 := Lib.hid ho1
    have HB1 := Lib.hid hb1
    have hc1 := HTB1.out.later hb1
    have y0 := hc1.cell (j := 0) rfl
    have y1 := hc1.cell (j := 1) rfl
    have y2 := hc1.cell (j := 2) rfl
    have HRT := Lib.hid (refRightTid_any t w1)
    obtain ⟨rt, hrt⟩ : ∃ b, rightTid t = b := ⟨_, rfl⟩
    rw [hrt] at HRT
    have HRTE := Lib.hid hrt
    clear hlow hv5 hv3 hgk hrow hfar hbox h5 h6 hb1 ho1 hc1 hrt HTB1
    go_upto_region 3 with (fail)
    rw [← hw1]
    clear hw1
    go_wp2_with fail
    refine (show Calls Try.prog 30 #[.agg #[.int .i64 t.node, .int .i64 t.epoch, .int .i64 t.seq]] _ _ from HRT.out).mono ?_
    rintro e w2 ⟨rfl, hb2⟩
    have HB2 := Lib.hid (HB1.out.trans (hb2.mono HB1.out.size))
    have HO2 := Lib.hid (HO1.out.later hb2)
    clear hb2 HRT HO1 HB1 y0 y1 y2
    cases rt with
    | false =>
      have HF : Hid ((rightTid t && okParts ps) = false) := Lib.hid (by rw [HRTE.out]; rfl)
      go_wp2_with fail
      go_returns
      exact ⟨HBW.out.trans (HB2.out.mono HBW.out.size), fun _ => rfl, fun e => by rw [HF.out] at e; cases e⟩
    | true =>
      go_wp2_with fail
      go_loopw [6, 7, 8, 9] (fun v i _ _ wr => ∃ (k : Nat) (V : Option Addr) (nn vc : Nat), k ≤ n ∧ i = .int .i64 (k : Int) ∧ v = .slice V nn vc ∧ Hid (OwnG 3 1 nv wf.heap.size wr (.slice V nn vc) (ps.take k)) ∧ Hid (okItems (ps.take k) = true ∧ ((ps.take k).map (·.its)).Pairwise Apart) ∧ Hid (Below wf.heap.size wf wr)) (fun _ i _ _ _ => n - (intOf i).toNat)
      case atStart => exact ⟨0, _, 0, 0, Nat.zero_le _, rfl, rfl, Lib.hid (by rw [List.take_zero]; exact HO2.out), Lib.hid ⟨rfl, List.Pairwise.nil⟩, HB2⟩
      case round =>
        clear HO2 HB2
        obtain ⟨i, V, nn, vc, hk, rfl, rfl, HV, HOK, HB⟩ := hrel
        by_cases hlt : i < n
        · have hil : i < ps.length := by rw [HLN.out.1]; exact hlt
          obtain ⟨g, off, rfl, hr⟩ := HSQ.out wr HB.out i (by rw [List.length_map]; exact hil)
          rw [List.getElem_map] at hr
          have hM := List.getElem_mem hil
          obtain ⟨s, hs⟩ : ∃ s, ps[i] = s := ⟨_, rfl⟩
          have HTM := Lib.hid (take_more hil hs)
          have HSI : Hid (∃ h : i < ps.length, ps[i] = s) := Lib.hid ⟨hil, hs⟩
          rw [hs] at hr hM
          have HM := Lib.hid hM
          have x0 : wr.cell? ⟨g, off + i * 4, none⟩ = _ := hr 0 _ rfl
          obtain ⟨V', n', vc', w5, hrun, hrow, hbe⟩ := OwnG.more elI (fit_fv fun x : Sd => x.node) HV.out s #[.int .i64 s.node] rfl HB.out.size (by rw [List.length_take]; omega)
          have HV5 := Lib.hid (show OwnG 3 1 nv wf.heap.size w5 (.slice V' n' vc') (ps.take (i + 1)) by rw [HTM.out]; exact hrow)
          have HB5 := Lib.hid (HB.out.trans hbe)
          have hr5 := HSQ.out w5 HB5.out i (by rw [List.length_map]; exact hil)
          obtain ⟨g2, off2, e2, hr5⟩ := hr5
          obtain ⟨rfl, rfl⟩ : g = g2 ∧ off = off2 := by simpa using e2
          rw [List.getElem_map, hs] at hr5
          have z1 := hr5 1 _ rfl
          have hii := HIT.out w5 (HBW.out.trans (HB5.out.mono HBW.out.size)) s hM
          have hri := refRightItems_any s.A s.its s.c w5 hii.1 (by have := hii.2.2; omega)
          obtain ⟨m, hm⟩ : ∃ m, s.its.length = m := ⟨_, rfl⟩
          have HMM : Hid (s.its.length = m ∧ m ≤ 40) := Lib.hid ⟨hm, by rw [← hm]; exact hii.2.2⟩
          have hm40 : m ≤ 40 := HMM.out.2
          rw [hm] at z1 hri
          have HRI := Lib.hid hri
          obtain ⟨ri, hrie⟩ : ∃ b, rightItems s.its = b := ⟨_, rfl⟩
          rw [hrie] at HRI
          have HRE := Lib.hid hrie
          have HRUN := Lib.hid hrun
          clear hil hr hM hs hrun hrow hbe hr5 e2 hii hri hm hrie HV HB
          go_wp2_with (at_builtin
                       refine Lib.wpList_append_run (wr.alloc (.cells #[.int .i64 s.node] 3)) rfl (.tmp 26) (.tmp 32) 37 37 rfl (.slice V nn vc) (.slice (some ⟨wr.heap.size, 0, none⟩) 1 1) rfl rfl _ _ HRUN.out ?_)
          refine HRI.out.mono ?_
          rintro e w6 ⟨rfl, hb6⟩
          have HB6 := Lib.hid (HB5.out.trans (hb6.mono HB5.out.size))
          have HV6 := Lib.hid (HV5.out.later hb6)
          clear hb6 HRI HRUN HB5 HV5 x0 z1
          cases ri with
          | false =>
            have HF : Hid ((rightTid t && okParts ps) = false) := Lib.hid (by rw [not_ok HM.out HRE.out, Bool.and_false])
            go_wp2_with fail
            go_returns
            exact ⟨HBW.out.trans (HB6.out.mono HBW.out.size), fun _ => rfl, fun e => by rw [HF.out] at e; cases e⟩
          | true =>
            go_wp2_with fail
            go_loopw [8, 9] (fun kk _ wq => ∃ k : Nat, k ≤ i ∧ kk = .int .i64 (k : Int) ∧ Hid (∀ a ∈ (ps.take i).take k, Apart a.its s.its) ∧ Hid (Below w6.heap.size w6 wq)) (fun kk _ _ => i - (intOf kk).toNat)
            case atStart => exact ⟨0, Nat.zero_le _, rfl, Lib.hid (fun a ha => by cases ha), Lib.hid (Below.refl _ _)⟩
            case round =>
              obtain ⟨k, hk2, rfl, HAP, HBK⟩ := hrel
              by_cases hki : k < i
              · have hkl : k < ps.length := by rw [HLN.out.1]; omega
                obtain ⟨a, ha⟩ : ∃ a, ps[k] = a := ⟨_, rfl⟩
                have HKA : Hid (∃ h : k < ps.length, ps[k] = a) := Lib.hid ⟨hkl, ha⟩
                have HAM : Hid (a ∈ ps) := Lib.hid (by rw [← ha]; exact List.getElem_mem hkl)
                obtain ⟨ma, hma⟩ : ∃ q, a.its.length = q := ⟨_, rfl⟩
                have HMA := Lib.hid hma
                have hkn : k < n := by omega
                clear hkl ha hma
                go_wp2_with fail
                go_loopw [9] (fun jj wz => ∃ j : Nat, j ≤ m ∧ jj = .int .i64 (j : Int) ∧ Hid (∀ y ∈ s.its.take j, ∀ x ∈ a.its, x.cell ≠ y.cell) ∧ Hid (Below w6.heap.size w6 wz)) (fun jj _ => m - (intOf jj).toNat)
                case atStart => exact ⟨0, Nat.zero_le _, rfl, Lib.hid (fun y hy => by cases hy), HBK⟩
                case round =>
                  clear HBK
                  obtain ⟨j, hj, rfl, HNO, HBJ⟩ := hrel
                  have hbw := HBW.out.trans ((HB6.out.trans (HBJ.out.mono HB6.out.size)).mono HBW.out.size)
                  have hbf := HB6.out.trans (HBJ.out.mono HB6.out.size)
                  obtain ⟨hil, hsi⟩ := HSI.out
                  obtain ⟨g3, off3, e3, hr3⟩ := HSQ.out wr hbf i (by rw [List.length_map]; exact hil)
                  obtain ⟨rfl, rfl⟩ : g = g3 ∧ off = off3 := by simpa using e3
                  rw [List.getElem_map, hsi] at hr3
                  have z1 := hr3 1 _ rfl
                  rw [HMM.out.1] at z1
                  by_cases hjm : j < m
                  · have hjl : j < s.its.length := by rw [HMM.out.1]; exact hjm
                    obtain ⟨b, o2, hsA, hcel⟩ := (HIT.out wr hbw s HM.out).1 j hjl
                    obtain ⟨y, hy⟩ : ∃ y, s.its[j] = y := ⟨_, rfl⟩
                    have htj : s.its.take (j + 1) = s.its.take j ++ [y] := by rw [List.take_succ_eq_append_getElem hjl, hy]
                    have hyM : y ∈ s.its := by rw [← hy]; exact List.getElem_mem hjl
                    rw [hy] at hcel
                    have q0 := hcel.cell
                    rw [hsA] at z1
                    obtain ⟨hkl, hka⟩ := HKA.out
                    obtain ⟨g4, off4, e4, hr4⟩ := HSQ.out wr hbf k (by rw [List.length_map]; exact hkl)
                    obtain ⟨rfl, rfl⟩ : g = g4 ∧ off = off4 := by simpa using e4
                    rw [List.getElem_map, hka] at hr4
                    have u1 := hr4 1 _ rfl
                    rw [HMA.out] at u1
                    have hia := HIT.out wr hbw a HAM.out
                    have HFD : Hid (∀ z, Calls Try.prog 32 #[.slice a.A ma a.c, .int .i64 y.cell] (wr.drewN z) fun e w' => e = .returned (.int .i64 (findI a.its y.cell)) ∧ w' = wr.drewN z) := Lib.hid fun z => by
                      have h1 := refFind_any a.A a.its a.c y.cell (wr.drewN z) (hia.1.later (below_dr _ _)) (by have := hia.2.2; omega)
                      rw [HMA.out] at h1
                      exact h1.mono fun e w' k => ⟨k.1, k.2.symm⟩
                    have HTJ := Lib.hid htj
                    have HYM := Lib.hid hyM
                    obtain ⟨fi, hfi⟩ : ∃ f, findI a.its y.cell = f := ⟨_, rfl⟩
                    rw [hfi] at HFD
                    have HFI := Lib.hid hfi
                    have hgl := block_of_cell u1
                    have hbl := block_of_cell q0
                    clear hbw hbf hil hsi e3 hr3 hjl hsA hcel hy htj hyM hkl hka e4 hr4 hia hfi
                    by_cases hfp : 0 ≤ fi
                    · have f1 : decide (fi ≥ 0) = true := decide_eq_true hfp
                      have HF : Hid ((rightTid t && okParts ps) = false) := Lib.hid (by
                        obtain ⟨x, hx, ex⟩ := find_hit (by rw [HFI.out]; exact hfp)
                        obtain ⟨hil, hsi⟩ := HSI.out
                        obtain ⟨hkl, hka⟩ := HKA.out
                        rw [not_apart hil hki (by rw [hka]; exact hx) (by rw [hsi]; exact HYM.out) ex, Bool.and_false])
                      clear hfp
                      go_upto_region 17 with (fail)
                      go_quiet ((first | (go_at_call 32; exact Calls.quiet_of_same (HFD.out _))))
                      go_wp2_with fail
                      go_returns
                      exact ⟨HBW.out.trans (((HB6.out.trans (HBJ.out.mono HB6.out.size)).mono HBW.out.size).trans ((below_dr _ _).mono (Nat.le_trans HBW.out.size (HB6.out.trans (HBJ.out.mono HB6.out.size)).size))), fun _ => rfl, fun e => by rw [HF.out] at e; cases e⟩
                    · have f1 : decide (fi ≥ 0) = false := decide_eq_false hfp
                      have HNO2 : Hid (∀ y ∈ s.its.take (j + 1), ∀ x ∈ a.its, x.cell ≠ y.cell) := Lib.hid fun y' hy' => by
                        rw [HTJ.out] at hy'
                        rcases List.mem_append.1 hy' with h1 | h1
                        · exact HNO.out y' h1
                        · rw [List.mem_singleton.1 h1]
                          exact find_no (by rw [HFI.out]; omega)
                      clear hfp HNO
                      go_upto_region 17 with (fail)
                      go_quiet ((first | (go_at_call 32; exact Calls.quiet_of_same (HFD.out _))))
                      go_wp2_with fail
                      go_roundw
                      case rel => exact ⟨j + 1, by omega, by go_num, HNO2, Lib.hid (HBJ.out.trans ((below_dr _ _).mono HBJ.out.size))⟩
                      case measure => simp [intOf]; omega
                  · obtain rfl : j = m := by omega
                    have HAP2 : Hid (∀ a ∈ (ps.take i).take (k + 1), Apart a.its s.its) := Lib.hid fun b hb => by
                      obtain ⟨hkl, hka⟩ := HKA.out
                      have h1 : (ps.take i).take (k + 1) = (ps.take i).take k ++ [a] := by
                        rw [List.take_succ_eq_append_getElem (by rw [List.length_take]; omega), List.getElem_take, hka]
                      rw [h1] at hb
                      rcases List.mem_append.1 hb with h2 | h2
                      · exact HAP.out b h2
                      · rw [List.mem_singleton.1 h2]
                        intro x hx y hy
                        exact HNO.out y (by rw [List.take_of_length_le (Nat.le_of_eq HMM.out.1)]; exact hy) x hx
                    clear hbw hbf hil hsi e3 hr3
                    go_wp2_with fail
                    go_roundw
                    case rel => exact ⟨k + 1, by omega, by go_num, HAP2, HBJ⟩
                    case measure => simp [intOf]; omega
              · obtain rfl : k = i := by omega
                have HOK2 : Hid (okItems (ps.take (k + 1)) = true ∧ ((ps.take (k + 1)).map (·.its)).Pairwise Apart) := Lib.hid (by
                  refine ⟨by rw [ok_items HTM.out, HOK.out.1, HRE.out]; rfl, ?_⟩
                  rw [HTM.out, List.map_append, List.pairwise_append]
                  refine ⟨HOK.out.2, List.pairwise_singleton _ _, fun u hu v hv => ?_⟩
                  obtain ⟨a, ha, rfl⟩ := List.mem_map.1 hu
                  have hv2 : v = s.its := by simpa using hv
                  rw [hv2]
                  exact HAP.out a (by rw [List.take_of_length_le (by rw [List.length_take]; omega)]; exact ha))
                have HBR := Lib.hid (HB6.out.trans (HBK.out.mono HB6.out.size))
                have HVR := Lib.hid (HV6.out.later HBK.out)
                clear HAP HBK HB6 HV6 HOK
                go_wp2_with fail
                go_roundw
                case rel => exact ⟨k + 1, V', n', vc', by omega, by go_num, rfl, HVR, HOK2, HBR⟩
                case measure => simp [intOf]; omega
        · obtain rfl : i = n := by omega
          have htk : ps.take i = ps := List.take_of_length_le (Nat.le_of_eq HLN.out.1)
          have hv := HV.out
          have hok := HOK.out
          rw [htk] at hv hok
          obtain ⟨k1, k2⟩ := nums_of hv
          have hrn := refRightNodes_any V (ps.map (·.node)) vc wr k2 (by rw [List.length_map, HLN.out.1]; omega)
          rw [← k1] at hrn
          have HRN := Lib.hid hrn
          obtain ⟨rn, hrne⟩ : ∃ b, rightNodes (ps.map (·.node)) = b := ⟨_, rfl⟩
          rw [hrne] at HRN
          have HRE := Lib.hid hrne
          have HOKP := Lib.hid hok
          clear htk hv hok k1 k2 hrn hrne HV HOK
          go_wp2_with fail
          refine HRN.out.mono ?_
          rintro e w7 ⟨rfl, hb7⟩
          have HB7 := Lib.hid (HB.out.trans (hb7.mono HB.out.size))
          have HBF := Lib.hid (HBW.out.trans (HB7.out.mono HBW.out.size))
          clear hb7 HRN HB
          cases rn with
          | false =>
            have HF : Hid ((rightTid t && okParts ps) = false) := Lib.hid (by unfold okParts; rw [HRE.out, Bool.and_false, Bool.false_and, Bool.and_false])
            go_wp2_with fail
            go_returns
            exact ⟨HBF.out, fun _ => rfl, fun e => by rw [HF.out] at e; cases e⟩
          | true =>
            have hokp := ok_of HOKP.out.1 HOKP.out.2 HRE.out
            have HT : Hid ((rightTid t && okParts ps) = true) := Lib.hid (by rw [HRTE.out, hokp]; rfl)
            have hat : DAt w.heap.size w7.heap.size w7 gk A3 c3 t 0 ps := by
              have hrow := HROW.out.later HB7.out
              have hbx := HBOX.out.later HB7.out
              have hg := HGK.out
              obtain ⟨rfl, _⟩ := OwnG.sl fit_sd HROW.out
              have hge := HBF.out.size
              refine ⟨hbx, OwnG.up hg.1 hrow, hg.2.2.1, ⟨by omega, hbx.lt⟩, fun k e => (hrow.lt (by rw [own_blk]; exact e)).2, fun s hs => ⟨(HIT.out w7 HBF.out s hs).1, (HIT.out w7 HBF.out s hs).2.1⟩, fun s hs k e => ?_, parts_uniq hokp, HLN.out.2, fun s hs => (HIT.out w7 HBF.out s hs).2.2⟩
              have hne : s.its ≠ [] := fun e0 => by
                have h1 := HOKP.out.1
                unfold okItems at h1
                rw [List.all_eq_true] at h1
                have h2 := h1 s hs
                rw [e0] at h2
                cases h2
              have h3 := HIL.out s hs hne k e
              refine ⟨by omega, by omega, fun e2 => ?_⟩
              have := (hrow.lt (by rw [own_blk]; exact e2)).1
              omega
            by_cases hi0 : i = 0
            · have f1 : ((i : Int) == 0) = true := by simp [hi0]
              have hps : ps = [] := List.eq_nil_of_length_eq_zero (by rw [HLN.out.1]; exact hi0)
              obtain ⟨hA3, ho3⟩ := hat.setZ (.int .i64 1)
              have f4 := hat.box.frozen (j := 4) (by simp)
              have x4 := hat.box.cell (j := 4) rfl
              have hst : stC false ps = 1 := by rw [hps]; rfl
              have HA3 : Hid (DAt w.heap.size w7.heap.size (w7.setCell ⟨gk, 4, none⟩ (.int .i64 1)) gk A3 c3 t (stC false ps) ps) := Lib.hid (by rw [hst]; exact hA3)
              have HO3 := Lib.hid ho3
              clear hokp hat hi0 hps hA3 ho3 hst
              go_wp2_with fail
              go_returns
              have hg := HGK.out
              refine ⟨HBF.out.trans (HO3.out.below HBF.out.size fun k e => by rw [e]; omega), fun e => (by rw [HT.out] at e; cases e), fun _ => ⟨gk, A3, c3, rfl, ?_⟩⟩
              have hsz : (w7.setCell ⟨gk, 4, none⟩ (.int .i64 1)).heap.size = w7.heap.size := by simp [World.setCell]
              rw [hsz]
              exact HA3.out
            · have f1 : ((i : Int) == 0) = false := by simp; omega
              have hst : stC false ps = 0 := by
                have hne : 0 < ps.length := by rw [HLN.out.1]; omega
                have h1 := HFL.out ps[0] (List.getElem_mem hne)
                have h2 : allY ps = false := by
                  unfold allY
                  rw [List.all_eq_false]
                  exact ⟨ps[0], List.getElem_mem hne, by rw [h1.1]; decide⟩
                unfold stC
                rw [h2]
                rfl
              have HA3 : Hid (DAt w.heap.size w7.heap.size w7 gk A3 c3 t (stC false ps) ps) := Lib.hid (by rw [hst]; exact hat)
              clear hokp hat hi0 hst
              go_wp2_with fail
              go_returns
              exact ⟨HBF.out, fun e => (by rw [HT.out] at e; cases e), fun _ => ⟨gk, A3, c3, rfl, HA3.out⟩⟩
end Go.Proofs.Ytjeogeablbkhgaa.Vot
