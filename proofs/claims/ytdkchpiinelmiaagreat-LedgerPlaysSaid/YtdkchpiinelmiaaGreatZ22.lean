/- Part 22 of the proof. Conditions: none. -/
import Derived.Test.YtdkchpiinelmiaaGreatZ20
import Derived.Test.YtdkchpiinelmiaaGreatZ21
namespace Go.Proofs.YtdkchpiinelmiaaGreat.Led
set_option maxRecDepth 100000
open Go.RowKit Go.Deep Mem fN Rec
abbrev Rw := List (List Value)
def gK (ls : List (Option Addr × Nat × Rw)) : Rw := (ls.map fun x => x.2.2).flatten
def Va (w : World) (O : Option Addr) (ls : List (Option Addr × Nat × Rw)) : Prop := ∀ k (h : k < ls.length), ∃ g off, O = some ⟨g, off, none⟩ /\ w.cell? ⟨g, off + k, none⟩ = some (.slice ls[k].1 ls[k].2.2.length ls[k].2.1) /\ Sl w ls[k].1 5 ls[k].2.2 /\ (ls[k].1 = none -> ls[k].2.1 = 0)
theorem Va.later {w w' : World} {O : Option Addr} {ls : List (Option Addr × Nat × Rw)} (h : Va w O ls) (hb : Below w.heap.size w w') : Va w' O ls := fun k hk => by
  obtain ⟨g, off, e, hc, hi⟩ := h k hk; exact ⟨g, off, e, (hb.cell (aH hc)).trans hc, hi.1.later hb, hi.2⟩
theorem vq {ls : List (Option Addr × Nat × Rw)} {k : Nat} (h : k < ls.length) : gK (ls.take (k + 1)) = gK (ls.take k) ++ ls[k].2.2 := by
  unfold gK; rw [List.take_succ_eq_append_getElem h, List.map_append, List.flatten_append]
  simp
theorem IU {ls : List (Option Addr × Nat × Rw)} (k : Nat) : (gK (ls.take k)).length <= (gK ls).length := by
  have h : gK ls = gK (ls.take k) ++ gK (ls.drop k) := by
    unfold gK; rw [<- List.flatten_append, <- List.map_append, List.take_append_drop]
  rw [h, List.length_append]
  omega
theorem IV {ls : List (Option Addr × Nat × Rw)} (h : ∀ x ∈ ls, Fit 5 x.2.2) : Fit 5 (gK ls) := by
  refine ⟨fun v hv => ?_, fun v hv => ?_⟩ <;> · obtain ⟨l, hl, hv⟩ := List.mem_flatten.1 hv; obtain ⟨x, hx, rfl⟩ := List.mem_map.1 hl; first | exact (h x hx).len v hv | exact (h x hx).one v hv
set_option maxHeartbeats 1000000 in
theorem ET (n : Nat) (w : World) (hn : n <= 100000) :
    Calls Tryz.prog 112 #[.slice none 0 0, iv (n : Int)] w fun e w' => ∃ v, e = .returned v /\ w'.ownsRow w.heap.size 78 5 v 0 [] /\ Below w.heap.size w w' := by
  by_cases h0 : n = 0
  · subst h0
    go_enter Tryz.func112, Tryz.ntmps112
    go_wp2_with fail
    go_returns
    exact ⟨_, rfl, World.ownsRow_nil _ _ _ _, Below.refl _ _⟩
  have h1 : 0 < n := by omega
  obtain ⟨i0, hi, hz0, hz1, hz2⟩ := info_parts mA.info; have HA := ak (Lib.run_append_nil_zeros (P := Tryz.prog) w 28 3 28 78 i0 _ .i64 .i64 Tryz.underlying28 Tryz.underlying3 hi hz0 n h1 (by omega) (by omega) (by rw [hz2]; omega)); obtain ⟨cap, hcap⟩ := ah (grownCap w n 0 78); have hc1 : n <= cap := by rw [<- hcap]; exact grownCap_ge _ _ _ _
  have l7 : Hid (cap <= maxLen) := ak (by rw [<- hcap]; exact grownCap_le_maxLen _ _ _ _ (by unfold maxLen; omega)); rw [hcap] at HA; obtain ⟨cur, hcur⟩ := ah (Builtin.zeroCells (Value.agg #[iv 0, iv 0, iv 0, .slice none 0 0, .slice none 0 0]).cells n ++ Builtin.zeroCells (Value.agg #[iv 0, iv 0, iv 0, .slice none 0 0, .slice none 0 0]).cells (cap - n)); rw [hcur] at HA; have HS : Hid (cur.size = cap * 5) := ak (by
    rw [<- hcur, Array.size_append, size_zeroCells, size_zeroCells]; show n * 5 + (cap - n) * 5 = _
    omega)
  clear hcur hcap; obtain ⟨w2, hw2⟩ := aj (w.drew.alloc (.cells cur 78)); have dW : Hid (w2.ownsRow w.heap.size 78 5 (.slice (some ⟨w.heap.size, 0, none⟩) 0 cap) 0 []) := ak (by
    rw [hw2]; exact World.ownsRow_made (base := w.heap.size) (e := 78) (size := 5) w.drew cur cap (Nat.le_refl _) l7.o HS.o)
  have HB : Hid (Below w.heap.size w w2) := ak (by
    rw [hw2]; exact (Below.refl _ _).drew.alloc (Nat.le_refl _) _)
  rw [<- hw2] at HA; clear hw2
  go_enter Tryz.func112, Tryz.ntmps112
  go_wp2_with (at_builtin
               refine Lib.wpList_append_run w rfl (.tmp 20) (.tmp 21) 28 3 rfl (.slice none 0 0) (iv (n : Int)) rfl rfl _ _ HA.o ?_)
  go_returns
  exact ⟨_, rfl, dW.o, HB.o⟩
set_option maxHeartbeats 2000000 in
theorem yZ (O : Option Addr) (ls : List (Option Addr × Nat × Rw)) (cap : Nat) (w : World) (h : Va w O ls) (hl : ls.length <= 100) (ht : (gK ls).length <= 100000) (hf : ∀ x ∈ ls, Fit 5 x.2.2) :
    Calls Tryz.prog 98 #[.slice O ls.length cap] w fun e w' => ∃ v, e = .returned v /\ w'.ownsRow w.heap.size 78 5 v (gK ls).length ((gK ls).flatten) /\ Below w.heap.size w w' := by
  have HL := ak h; have HFT := ak hf; have HT := ak (fun k => Nat.le_trans (IU (ls := ls) k) ht); obtain ⟨n, hn⟩ := ah ls.length; have HN := ak hn; rw [hn] at hl ⊢; clear h hn hf
  go_enter Tryz.func98, Tryz.ntmps98
  go_wp2_with fail
  go_loopw [3, 5, 11] (fun s _ i wr => ∃ k : Nat, k <= n /\ i = iv (k : Int) /\ s = iv ((gK (ls.take k)).length : Int) /\ w = wr) (fun _ _ i _ => n - (intOf i).toNat)
  case atStart => exact ⟨0, Nat.zero_le _, rfl, rfl, rfl⟩
  case round =>
    obtain ⟨k, hk, rfl, rfl, rfl⟩ := hrel; have t0 := HT.o k
    by_cases hlt : k < n
    · have hlt' : k < ls.length := by have := HN.o; omega
      obtain ⟨g, off, hO, hc, hx⟩ := HL.o k hlt'; clear hx; subst hO; have HE := ak (vq hlt'); have t1 := HT.o (k + 1); rw [HE.o, List.length_append] at t1; have rJ : Hid ((gK (ls.take (k + 1))).length = (gK (ls.take k)).length + ls[k].2.2.length) := ak (by rw [HE.o, List.length_append]); obtain ⟨s, hs⟩ := ah ((gK (ls.take k)).length); obtain ⟨m, hm⟩ := ah (ls[k].2.2.length); obtain ⟨A, hA⟩ := ah (ls[k].1); obtain ⟨c, hcc⟩ := ah (ls[k].2.1); rw [hs, hm] at rJ t1; rw [hs] at t0; rw [hA, hm, hcc] at hc; rw [hs]; clear hs hm hA hcc HE hlt'
      go_wp2_with fail
      go_roundw
      case rel => exact ⟨k + 1, by omega, by go_num, by rw [rJ.o]; go_num, trivial⟩
      case measure => simp [intOf]; omega
    obtain rfl : k = n := by omega
    have HF : Hid (gK (ls.take k) = gK ls) := ak (by rw [List.take_of_length_le (by have := HN.o; omega)])
    rw [HF.o] at t0 ⊢; obtain ⟨tot, htot⟩ := ah ((gK ls).length); have aam := ak htot; rw [htot] at t0 ⊢; clear htot HF
    go_wp2_with fail
    refine (ET tot w t0).mono ?_; rintro e w1 ⟨v, rfl, hrow, hb1⟩; have dW := ak hrow; have fW := ak hb1; clear hrow hb1
    go_wp2_with fail
    go_loopw [6, 8, 27] (fun v _ i wr => ∃ k2 : Nat, k2 <= k /\ i = iv (k2 : Int) /\ wr.ownsRow w.heap.size 78 5 v (gK (ls.take k2)).length ((gK (ls.take k2)).flatten) /\ Below w.heap.size w wr) (fun _ _ i _ => k - (intOf i).toNat)
    case atStart => exact ⟨0, Nat.zero_le _, rfl, dW.o, fW.o⟩
    case round =>
      obtain ⟨k2, hk2, rfl, hrow, hbr⟩ := hrel; have Vj := ak hrow; have dA := ak hbr
      by_cases D5 : k2 < k
      · have hlt' : k2 < ls.length := by have := HN.o; omega
        obtain ⟨g, off, hO, hc, hit⟩ := (HL.o.later hbr) k2 hlt'; subst hO; have HE := ak (vq hlt'); have t1 := HT.o (k2 + 1); rw [HE.o, List.length_append] at t1; have YA := ak t1; have HIT := ak hit; obtain ⟨L, hL⟩ := ah (ls[k2].2.2); obtain ⟨A, hA⟩ := ah (ls[k2].1); obtain ⟨c, hcc⟩ := ah (ls[k2].2.1); rw [hL] at HE YA; rw [hA, hL, hcc] at HIT; rw [hA, hL, hcc] at hc; obtain ⟨L0, X_⟩ := ah (gK (ls.take k2)); rw [X_] at HE YA Vj; obtain ⟨Ax, cx, hvx⟩ := bD Vj.o; obtain ⟨nx, hnx⟩ := ah L0.length; have Jo : Hid (Fit 5 L) := ak (by rw [<- hL]; exact HFT.o _ (List.getElem_mem hlt')); have aaz : Hid (Fit 5 L0) := ak (by rw [<- X_]; exact IV fun x hx => HFT.o x (List.mem_of_mem_take hx)); rw [hnx] at hvx; subst hvx; obtain ⟨m, hm⟩ := ah L.length; have HM := ak hm; rw [hm] at hc; clear t1 hit hL hA hcc hrow hbr hlt' X_ hm hnx
        go_wp2_with (at_builtin
                     obtain ⟨v', w4, hrun, ho4, hg4, Gm⟩ := aZ mA _ 28 w.heap.size (.slice Ax nx cx) L0 L A c aaz.o Jo.o Vj.o HIT.o.1 HIT.o.2 (by have := YA.o; omega) (by have := dA.o.size; omega)
                     rw [HM.o] at hrun; refine Lib.wpList_append_run _ rfl (.tmp 31) (.tmp 32) 28 28 rfl (.slice Ax nx cx) (.slice A m c) rfl rfl _ _ hrun ?_; have HO4 := ak ho4; have Ls := ak (Below.grown dA.o hg4 dA.o.size (fun k hk => (Vj.o.lt k hk).1)); clear ho4 hg4 Gm hrun)
        go_roundw
        case rel => exact ⟨k2 + 1, by omega, by go_num, by rw [HE.o]; exact HO4.o, Ls.o⟩
        case measure => simp [intOf]; omega
      obtain rfl : k2 = k := by omega
      have HF : Hid (gK (ls.take k2) = gK ls) := ak (by rw [List.take_of_length_le (by have := HN.o; omega)])
      clear hrow hbr
      go_wp2_with fail
      go_returns
      exact ⟨_, rfl, by have h := Vj.o; rw [HF.o] at h; rw [<- aam.o]; exact h, dA.o⟩
theorem u9 {bs : List Bool} (h : ¬ dV bs < 0) : ∃ k : Nat, dV bs = (k : Int) /\ ∃ hk : k < bs.length, bs[k] = true := by
  unfold dV at h ⊢
  cases e : bs.findIdx? (fun b => b) with
  | none => rw [e] at h; exact absurd (by decide) h
  | some i =>
    obtain ⟨hi, hp, _⟩ := List.findIdx?_eq_some_iff_getElem.1 e; exact ⟨i, rfl, hi, hp⟩
theorem mO {s : St} {u : cT} (h : ¬ bQ s u < 0) : ∃ k : Nat, bQ s u = (k : Int) /\ ∃ hk : k < s.ay.length, s.ay[k].tid = u := by
  obtain ⟨k, e, hk, hp⟩ := u9 h; rw [List.length_map] at hk; rw [List.getElem_map] at hp; exact ⟨k, e, hk, of_decide_eq_true hp⟩
section
variable {base b : Nat} {s : St} {y : Sy} {w w0 w1 : World}
theorem KL {A : Option Addr} {c : Nat} {ps' : List Lay} {n j : Nat} (hnew : ∀ j, blk A = some j -> blk y.Q = some j \/ n <= j) (e : rowsOf { y with Q := A, q := c, ps := ps' } j) : rowsOf y j \/ n <= j := by
  rcases e with e | e | e | e
  · exact Or.inl (Or.inl e)
  · exact (grown hnew e).imp_left fun h => Or.inr (Or.inl h)
  · exact Or.inl (Or.inr (Or.inr (Or.inl e)))
  exact Or.inl (Or.inr (Or.inr (Or.inr e)))
theorem K9 {A : Option Addr} {c : Nat} {ps' : List Lay} {x : List It} {n : List Int} {lay : Lay} (ho : Only (fun k => some k = blk y.Q) w w1) (hnew : ∀ j, blk A = some j -> blk y.Q = some j \/ w.heap.size <= j) (hf : Fr (fun j => sb b j \/ rowsOf y j) w x n lay) : Fr (fun j => sb b j \/ rowsOf { y with Q := A, q := c, ps := ps' } j) w1 x n lay :=
  hf.next (ho.mono fun _ _ e => Or.inr (Or.inr (Or.inl e))) fun j e => by
    rcases e with e | e
    · exact Or.inl (Or.inl e)
    exact (KL hnew e).imp_left Or.inr
def fX (base b : Nat) (y : Sy) (l' : List Pr) (ps' : List Lay) (w0 : World) (v : Value) (w : World) : Prop := ∃ A c, v = .slice A l'.length c /\ w.ownsRow base 78 5 (.slice A l'.length c) l'.length (List.zipWith Pr.vals l' ps').flatten /\ Only (fun k => some k = blk y.Q) w0 w /\ (∀ j, blk A = some j -> blk y.Q = some j \/ w0.heap.size <= j) /\ ps'.length = l'.length /\
  ∀ k (h : k < l'.length) (h' : k < ps'.length), Fr (fun j => sb b j \/ rowsOf { y with Q := A, q := c, ps := ps' } j) w l'[k].items l'[k].nodes ps'[k]
theorem jI {l' : List Pr} {ps' : List Lay} {v : Value} (h0 : Own base w0 b s y) (h : fX base b y l' ps' w0 v w) : Step base b s y w0 { s with ay := l' } (w.setCell ⟨b, 5, none⟩ v) := by
  obtain ⟨A, c, rfl, h1, h2, h3, h4, h5⟩ := h; have cV := aJ h0.br h2 (fun e => h0.off (Or.inr (Or.inl e))); refine ⟨_, h0.D2 (l' := l') h2 h1 h4 h3 h5 (Only.b_ w ⟨b, 5, none⟩ _) (cV.fB 5 _), (h2.mono fun k _ e => Or.inr (Or.inr (Or.inl e))).trans (Only.b_ w ⟨b, 5, none⟩ _) fun k _ e => Or.inl e, fun k e => ?_⟩; rcases e with e | e
  · exact Or.inl (Or.inl e)
  exact (KL h3 e).imp_left Or.inr
theorem iY {l' : List Pr} {ps' : List Lay} {v : Value} (h0 : Own base w0 b s y) (h : fX base b y l' ps' w0 v w) : ∃ A n c, v = .slice A n c /\ w.cell? ⟨b, 5, none⟩ = some (.slice y.Q s.ay.length y.q) /\ w.frozen? ⟨b, 5, none⟩ = false := by
  obtain ⟨A, c, rfl, h1, h2, h3, _⟩ := h; have cV := aJ h0.br h2 (fun e => h0.off (Or.inr (Or.inl e))); exact ⟨A, _, c, rfl, cV.cell (j := 5) rfl, cV.frozen (j := 5) (by unfold St.vals; simp)⟩
theorem Own.TN (h : Own base w b s y) {k : Nat} (hk : k < s.ay.length) : ∃ qb, y.Q = some ⟨qb, 0, none⟩ /\ s.ay.length <= y.q /\ y.q <= maxLen /\ ∃ hk' : k < y.ps.length, w.cell? ⟨qb, k * 5 + 3, none⟩ = some (.slice (y.ps[k]).A s.ay[k].items.length (y.ps[k]).c) := by
  have hl := h.lists.jk; rcases hl.2 with ⟨_, h2⟩ | ⟨g, cap, cur, e, k2, k3, k4, k5, k6, k7⟩
  · omega
  simp only [Value.slice.injEq] at e
  have hk' : k < y.ps.length := by rw [h.lists.ps]; exact hk
  refine ⟨g, e.1, by rw [e.2.2]; exact k4, by rw [e.2.2]; exact k5, hk', ?_⟩; rw [e.1] at hl; obtain ⟨hc, _⟩ := cR hl; refine hc.cell ?_; rw [eG (sz := 5) (h_ _ _).len k (by rw [cY _ h.lists.ps]; exact hk) 3 (by decide), List.getElem_zipWith]
  rfl
end
def cut {α : Type} (l : List α) (k : Nat) : List α := l.take k ++ l.drop (k + 1)
theorem rZ {α : Type} {l : List α} {k : Nat} (h : k < l.length) : (cut l k).length = l.length - 1 := by unfold cut; simp; omega
theorem GZ {α : Type} {l : List α} {k j i : Nat} (hk : k < l.length) (h : j < (cut l k).length) (hi : i < l.length) (e : i = if j < k then j else j + 1) : (cut l k)[j] = l[i] := by
  apply Option.some.inj
  rw [<- List.getElem?_eq_getElem h, <- List.getElem?_eq_getElem hi]; unfold cut; rw [List.getElem?_append, List.length_take, Nat.min_eq_left (Nat.le_of_lt hk)]
  split at e
  · rename_i hj
    rw [if_pos hj, List.getElem?_take_of_lt hj, e]
  rename_i hj
  rw [if_neg hj, List.getElem?_drop, e]
  congr 1
  omega
theorem JU (l : List Pr) (ys : List Lay) (k : Nat) (hy : ys.length = l.length) (hk : k < l.length) : List.zipWith Pr.vals (cut l k) (cut ys k) = (List.zipWith Pr.vals l ys).take k ++ (List.zipWith Pr.vals l ys).drop (k + 1) := by
  unfold cut; rw [List.zipWith_append (by rw [List.length_take, List.length_take]; omega), List.take_zipWith, List.drop_zipWith]
theorem mH {base b : Nat} {s : St} {y : Sy} {w0 w : World} {qb g k o2 : Nat} (h : Own base w b s y) (h0 : Own base w0 b s y) (hb : Below w0.heap.size w0 w) (hbase : base <= w0.heap.size) (hs : s.ay.length <= 100000) (hk : k < s.ay.length) (hQ : y.Q = some ⟨qb, 0, none⟩)
    (iH : y.q = k + 1 \/ o2 = (k + 1) * 5) (hcap : s.ay.length <= y.q) (hg : Cells w g 28 [.slice (some ⟨qb, 0, none⟩) k y.q, .slice (some ⟨qb, o2, none⟩) (s.ay.length - (k + 1)) (y.q - (k + 1))]) :
    Calls Tryz.prog 98 #[.slice (some ⟨g, 0, none⟩) 2 2] w fun e w' => ∃ v, e = .returned v /\ fX base b y (cut s.ay k) (cut y.ps k) w0 v w' := by
  have hl := h.lists; have hps := hl.ps; obtain ⟨vs, hvs⟩ := ah (List.zipWith Pr.vals s.ay y.ps); have hvl : vs.length = s.ay.length := by rw [<- hvs]; exact cY _ hps
  have hrow := hl.jk; rw [hQ, hvs] at hrow; have hfit : Fit 5 vs := by rw [<- hvs]; exact h_ _ _
  obtain ⟨hc, _⟩ := cR hrow; have hls : Va w (some ⟨g, 0, none⟩) [(some ⟨qb, 0, none⟩, y.q, vs.take k), (some ⟨qb, o2, none⟩, y.q - (k + 1), vs.drop (k + 1))] := by
    intro j hj; rcases j with _ | _ | j
    · refine ⟨g, 0, rfl, ?_, fun i hi => ?_, fun e => by cases e⟩
      · have := hg.cell (j := 0) rfl
        simp only [List.getElem_cons_zero, List.length_take, hvl]; rw [Nat.min_eq_left (Nat.le_of_lt hk)]; exact this
      refine ⟨qb, 0, rfl, ?_⟩
      simp only [List.getElem_cons_zero, List.length_take] at hi; simp only [List.getElem_cons_zero, List.getElem_take]; exact (cW hc hfit.len i (by omega)).elim fun _ h => h.elim fun _ h => by
        have e := h.1; simp only [Option.some.injEq, Addr.mk.injEq] at e; obtain ⟨rfl, rfl, _⟩ := e; exact h.2
    · refine ⟨g, 0, rfl, ?_, fun i hi => ?_, fun e => by cases e⟩
      · have := hg.cell (j := 1) rfl
        simp only [Nat.zero_add, List.getElem_cons_succ, List.getElem_cons_zero, List.length_drop, hvl]; exact this
      refine ⟨qb, o2, rfl, ?_⟩
      simp only [Nat.zero_add, List.getElem_cons_succ, List.getElem_cons_zero, List.length_drop] at hi; simp only [Nat.zero_add, List.getElem_cons_succ, List.getElem_cons_zero, List.getElem_drop]; have e2 : o2 = (k + 1) * 5 := by
        rcases iH with h | h
        · omega
        exact h
      rw [e2, <- Nat.add_mul]; exact (cW hc hfit.len (k + 1 + i) (by omega)).elim fun _ h => h.elim fun _ h => by
        have e := h.1; simp only [Option.some.injEq, Addr.mk.injEq] at e; obtain ⟨rfl, rfl, _⟩ := e; rw [Nat.zero_add] at h; exact h.2
    exact absurd hj (by simp)
  have hall : gK [(some (⟨qb, 0, none⟩ : Addr), y.q, vs.take k), (some (⟨qb, o2, none⟩ : Addr), y.q - (k + 1), vs.drop (k + 1))] = List.zipWith Pr.vals (cut s.ay k) (cut y.ps k) := by
    rw [JU _ _ _ hps hk, hvs]; unfold gK
    simp
  have hcl : (cut y.ps k).length = (cut s.ay k).length := by rw [rZ (by omega), rZ hk, hps]
  have hzl := cY Pr.vals hcl; have SN := yZ (some ⟨g, 0, none⟩) _ 2 w hls (by simp) (by rw [hall, hzl, rZ hk]; omega) (fun x hx => by
    rcases List.mem_cons.1 hx with rfl | hx
    · exact hfit.sub fun v hv => List.mem_of_mem_take hv
    rw [List.mem_singleton.1 hx]
    exact hfit.sub fun v hv => List.mem_of_mem_drop hv)
  refine SN.mono ?_; rintro e w' ⟨v, rfl, hr, hb'⟩; rw [hall, hzl] at hr; obtain ⟨A, c, rfl⟩ := bD hr; have hbb := hb.trans (hb'.mono hb.size); have hnew : ∀ j, blk A = some j -> blk y.Q = some j \/ w0.heap.size <= j := fun j hA => Or.inr (Nat.le_trans hb.size (hr.lt j (by rw [aK]; exact hA)).1)
  have tU : Only (fun k => some k = blk y.Q) w0 w' := Only.of_below hbb; refine ⟨_, rfl, A, c, rfl, cS (Nat.le_trans hbase hb.size) hr, tU, hnew, hcl, fun j h1 h2 => K9 tU hnew ?_⟩; obtain ⟨i, hi⟩ := aj (if j < k then j else j + 1)
  have hil : i < s.ay.length := by rw [rZ hk] at h1; split at hi <;> omega
  rw [GZ hk h1 hil hi, GZ (l := y.ps) (by omega) h2 (by omega) hi]; exact h0.lists.pin i hil (by omega)
