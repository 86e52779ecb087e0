/-
  Layer 14: a new incarnation is met; a tick goes by for a peer; whether an envelope is right.
  Conditions: none.
-/
import Derived.Test.YtccdpgbmkiapdaaL14
namespace Go.Proofs.Ytccdpgbmkiapdaa.Ses
set_option maxRecDepth 100000
open Go.RowKit Go.Deep Go.Proofs.Ytccdpgbmkiapdaa.Mem Go.Proofs.Ytccdpgbmkiapdaa.Win
section
variable {B pb o ac : Nat} {N : Int} {w w1 wi : World} {p : Pm} {A : Option Addr}
/-- Cells of a held payload are written. -/
theorem PAt.setH (h : PAt B w pb o p A ac) {g k j : Nat} (hA : A = some ⟨g, 0, none⟩) (hk : k < p.held.length) (hj : j < 4) {u : Value} (h1 : u.oneCell' = true) {x : Hd} (hx : x.vals = (p.held[k]).vals.set j u) :
    PStep B pb o A w ⟨p.L, p.known, p.last, p.held.set k x⟩ A ac (w.setCell ⟨g, k * 4 + j, none⟩ u) := by
  subst hA
  have hg : g ≠ pb := h.nA g rfl
  have ho := Only.of_set w ⟨g, k * 4 + j, none⟩ u
  have hn : ¬ (fun i => i = (⟨g, k * 4 + j, none⟩ : Addr).block) pb := fun e => hg e.symm
  refine ⟨⟨h.win.only ho hn, ?_, OwnG.setC fit_hd (by simpa using h.row) hk hj h1 hx, h.nA⟩, ho.mono fun i _ e => Or.inr (by rw [show i = g from e]; rfl), Keeps.off ho hn, fun _ e => Or.inl e.symm⟩
  rw [List.length_set]
  exact h.cel.only ho hn
theorem PAt.elem (h : PAt B w pb o p A ac) {k : Nat} (hk : k < p.held.length) : ∃ g, A = some ⟨g, 0, none⟩ ∧ CellsO w g (k * 4) (p.held[k]).vals := OwnG.elem fit_hd h.row hk
/-- What was made behind all that was there is written into. -/
theorem PStep.aside {p' : Pm} {A' : Option Addr} {ac' : Nat} {T : Nat → Prop} {w2 : World} (h : PStep B pb o A w p' A' ac' w1) (ho : Only T w1 w2) (hT : ∀ k, T k → w.heap.size ≤ k) (h1 : pb < w.heap.size) (h2 : ∀ k, blk A' = some k → k < w.heap.size) : PStep B pb o A w p' A' ac' w2 :=
  ⟨h.at'.only ho (fun e => by have := hT _ e; omega) fun k e e2 => (by have := hT _ e2; have := h2 k e; omega), h.only.trans2 ho hT, h.keeps.trans (Keeps.off ho fun e => by have := hT _ e; omega), h.new⟩
/-- The first k have begun anew. -/
def begun (l : List Hd) (k : Nat) : List Hd := (l.take k).map beginH ++ l.drop k
theorem begun_len (l : List Hd) (k : Nat) : (begun l k).length = l.length := by
  unfold begun
  rw [List.length_append, List.length_map, List.length_take, List.length_drop]
  omega
theorem begun_at {l : List Hd} {k : Nat} (hk : k < l.length) : (begun l k)[k]'(by rw [begun_len]; exact hk) = l[k] := by
  unfold begun
  rw [List.getElem_append_right (by rw [List.length_map, List.length_take]; omega)]
  simp only [List.getElem_drop, List.length_map, List.length_take, Nat.min_eq_left (Nat.le_of_lt hk), Nat.sub_self, Nat.add_zero]
theorem begun_set {l : List Hd} {k : Nat} (hk : k < l.length) : (begun l k).set k (beginH l[k]) = begun l (k + 1) := by
  unfold begun
  rw [List.set_append_right _ _ (by rw [List.length_map, List.length_take]; omega), List.length_map, List.length_take, Nat.min_eq_left (by omega), Nat.sub_self, List.drop_eq_getElem_cons hk, List.set_cons_zero, List.take_succ_eq_append_getElem hk, List.map_append, List.append_assoc]
  rfl
set_option maxHeartbeats 1000000 in
theorem meet_any (h : PAt B w pb o p A ac) (hp : Pok N p) (e : Int) :
    Calls Try.prog 52 #[.pointer (some ⟨pb, o, none⟩), .int .i64 e] w fun r w' => r = .returned (.bool (meetP p e).1) ∧ PStep B pb o A w (meetP p e).2 A ac w' := by
  have c2 : w.cell? ⟨pb, o + 2, none⟩ = _ := h.cel.cell (j := 0) rfl
  have f2 : w.frozen? ⟨pb, o + 2, none⟩ = _ := h.cel.frozen (j := 0) (by simp)
  obtain ⟨kn, hkn⟩ : ∃ x, p.known = x := ⟨_, rfl⟩
  rw [hkn] at c2
  have hst := h.setKnown e
  obtain ⟨w1, hw1⟩ : ∃ W, W = w.setCell ⟨pb, o + 2, none⟩ (.int .i64 e) := ⟨_, rfl⟩
  rw [← hw1] at hst
  have HC := Lib.hid (Clear_any hst.at'.win)
  have HST := Lib.hid hst
  have HL := Lib.hid hp.len
  by_cases h0 : kn = 0
  · have e1 : (kn == 0) = true := by simp [h0]
    have HM : Hid (meetP p e = (false, ⟨[], e, p.last, p.held⟩)) := Lib.hid (by unfold meetP; rw [hkn, if_pos h0])
    rw [HM.out]
    clear h hp hkn hst h0
    go_enter Try.func52, Try.ntmps52
    go_upto_region 3 with (fail)
    rw [← hw1]
    clear hw1 c2 f2
    go_wp2_with fail
    refine HC.out.mono ?_
    rintro r w2 ⟨rfl, hw2, hu⟩
    have HS2 := Lib.hid (HST.out.trans (HST.out.at'.winTurn hw2 hu))
    clear hw2 hu HC
    go_wp2_with fail
    go_returns
    exact ⟨rfl, HS2.out⟩
  · have e1 : (kn == 0) = false := by simp [h0]
    have HM : Hid (meetP p e = (true, ⟨[], e, p.last, p.held.map beginH⟩)) := Lib.hid (by unfold meetP; rw [hkn, if_neg h0])
    rw [HM.out]
    obtain ⟨n, hn⟩ : ∃ n, p.held.length = n := ⟨_, rfl⟩
    have HN := Lib.hid hn
    have hn32 : n ≤ 32 := by rw [← hn]; exact hp.len
    clear h hp hkn hst h0 hn
    go_enter Try.func52, Try.ntmps52
    go_upto_region 3 with (fail)
    rw [← hw1]
    clear hw1 c2 f2
    go_wp2_with fail
    refine HC.out.mono ?_
    rintro r w2 ⟨rfl, hw2, hu⟩
    have hs2 := HST.out.trans (HST.out.at'.winTurn hw2 hu)
    have c4 : w2.cell? ⟨pb, o + 4, none⟩ = _ := hs2.at'.cel.cell (j := 2) rfl
    dsimp only at c4
    rw [HN.out] at c4
    have HS2 := Lib.hid hs2
    clear hw2 hu HC hs2
    go_wp2_with fail
    go_loopw [6, 26] (fun _ j wr => ∃ (k : Nat), k ≤ n ∧ j = .int .i64 (k : Int) ∧ Hid (PStep B pb o A w ⟨[], e, p.last, begun p.held k⟩ A ac wr)) (fun _ j _ => n - (intOf j).toNat)
    case atStart => exact ⟨0, Nat.zero_le _, rfl, HS2⟩
    case round =>
      clear HS2 c4
      obtain ⟨k, hkn, rfl, HS⟩ := hrel
      by_cases hlt : k < n
      · have hkl : k < p.held.length := by rw [HN.out]; exact hlt
        have hkb : k < (begun p.held k).length := by rw [begun_len]; exact hkl
        have c4 : wr.cell? ⟨pb, o + 4, none⟩ = _ := HS.out.at'.cel.cell (j := 2) rfl
        dsimp only at c4
        rw [begun_len, HN.out] at c4
        obtain ⟨g, hA, hce⟩ := HS.out.at'.elem hkb
        dsimp only at hce
        rw [begun_at hkl] at hce
        have HBG := Lib.hid (begin_any hce)
        have s1 := HS.out.at'.setH hA hkb (j := 2) (by decide) (u := .int .i64 4) rfl (x := ⟨p.held[k].seq, p.held[k].pay, 4, p.held[k].left⟩) (by dsimp only; rw [begun_at hkl]; rfl)
        have s2 := s1.at'.setH (k := k) hA (by dsimp only; rw [List.length_set]; exact hkb) (j := 3) (by decide) (u := .int .i64 4) rfl (x := beginH p.held[k]) (by dsimp only; rw [List.getElem_set_self]; rfl)
        dsimp only at s1 s2
        rw [List.set_set, begun_set hkl] at s2
        have HS2 := Lib.hid ((HS.out.trans s1).trans s2)
        subst hA
        clear hce s1 s2 hkb HS
        go_wp2_with fail
        refine HBG.out.mono ?_
        rintro r w3 ⟨rfl, hw3⟩
        rw [← hw3] at HS2
        clear hw3 HBG
        go_wp2_with fail
        go_roundw
        case rel => exact ⟨k + 1, by omega, by go_num, HS2⟩
        case measure => simp [intOf]; omega
      · obtain rfl : k = n := by omega
        have HF : Hid (PStep B pb o A w ⟨[], e, p.last, p.held.map beginH⟩ A ac wr) := Lib.hid (by
          have h1 := HS.out
          have e2 : begun p.held k = p.held.map beginH := by
            unfold begun
            rw [List.take_of_length_le (by rw [HN.out]; exact Nat.le_refl _), List.drop_of_length_le (by rw [HN.out]; exact Nat.le_refl _), List.append_nil]
          rw [e2] at h1
          exact h1)
        go_wp2_with fail
        go_returns
        exact ⟨rfl, HF.out⟩
/-- The first k have had a tick. -/
def ticked (l : List Hd) (k : Nat) : List Hd := (l.take k).map (fun h => (tickH h).2) ++ l.drop k
theorem ticked_len (l : List Hd) (k : Nat) : (ticked l k).length = l.length := by
  unfold ticked
  rw [List.length_append, List.length_map, List.length_take, List.length_drop]
  omega
theorem ticked_at {l : List Hd} {k : Nat} (hk : k < l.length) : (ticked l k)[k]'(by rw [ticked_len]; exact hk) = l[k] := by
  unfold ticked
  rw [List.getElem_append_right (by rw [List.length_map, List.length_take]; omega)]
  simp only [List.getElem_drop, List.length_map, List.length_take, Nat.min_eq_left (Nat.le_of_lt hk), Nat.sub_self, Nat.add_zero]
theorem ticked_set {l : List Hd} {k : Nat} (hk : k < l.length) : (ticked l k).set k (tickH l[k]).2 = ticked l (k + 1) := by
  unfold ticked
  rw [List.set_append_right _ _ (by rw [List.length_map, List.length_take]; omega), List.length_map, List.length_take, Nat.min_eq_left (by omega), Nat.sub_self, List.drop_eq_getElem_cons hk, List.set_cons_zero, List.take_succ_eq_append_getElem hk, List.map_append, List.append_assoc]
  rfl
theorem dueL_snoc (l : List Hd) (h : Hd) : dueL (l ++ [h]) = if (tickH h).1 then dueL l ++ [(tickH h).2] else dueL l := by
  unfold dueL
  rw [List.filter_append, List.map_append]
  cases e : (tickH h).1 <;> simp [e]
theorem dueL_len (l : List Hd) : (dueL l).length ≤ l.length := by
  unfold dueL
  rw [List.length_map]
  exact List.length_filter_le _ _
set_option maxHeartbeats 2000000 in
theorem peerTick_any (h : PAt B w pb o p A ac) (hp : Pok N p) (hB : B ≤ w.heap.size) :
    Calls Try.prog 58 #[.pointer (some ⟨pb, o, none⟩)] w fun r w' => ∃ V vn vc, r = .returned (.slice V vn vc) ∧ OwnG 144 4 Hd.vals w.heap.size w' (.slice V vn vc) (dueL p.held) ∧ PStep B pb o A w (tickP p).2 A ac w' := by
  have HP := Lib.hid h
  have HOK := Lib.hid hp
  have HBW := Lib.hid hB
  have c4 : w.cell? ⟨pb, o + 4, none⟩ = _ := h.cel.cell (j := 2) rfl
  obtain ⟨n, hn⟩ : ∃ n, p.held.length = n := ⟨_, rfl⟩
  have HN := Lib.hid hn
  have hn32 : n ≤ 32 := by rw [← hn]; exact hp.len
  rw [hn] at c4
  have HS0 : Hid (PStep B pb o A w ⟨p.L, p.known, p.last, ticked p.held 0⟩ A ac w) := Lib.hid (PStep.same h (Below.refl _ _))
  have HWS : Hid (∀ k, (k = pb ∨ some k = blk A) → k < w.heap.size) := Lib.hid fun k e => by
    rcases e with e | e
    · rw [e]; exact h.cel.lt
    · exact (h.row.lt k (by rw [own_blk]; exact e.symm)).2
  clear h hp hn hB
  go_enter Try.func58, Try.ntmps58
  go_wp2_with fail
  go_loopw [3, 4, 10] (fun a _ j wr => ∃ (k : Nat) (V : Option Addr) (vn vc : Nat), k ≤ n ∧ j = .int .i64 (k : Int) ∧ a = .slice V vn vc ∧ Hid (OwnG 144 4 Hd.vals w.heap.size wr (.slice V vn vc) (dueL (p.held.take k))) ∧ Hid (PStep B pb o A w ⟨p.L, p.known, p.last, ticked p.held k⟩ A ac wr)) (fun _ _ j _ => n - (intOf j).toNat)
  case atStart => exact ⟨0, none, 0, 0, Nat.zero_le _, rfl, rfl, Lib.hid (OwnG.nil _ _ _ _ _), HS0⟩
  case round =>
    clear HS0 c4
    obtain ⟨k, V, vn, vc, hkn, rfl, rfl, HV, HS⟩ := hrel
    have c4 : wr.cell? ⟨pb, o + 4, none⟩ = _ := HS.out.at'.cel.cell (j := 2) rfl
    dsimp only at c4
    rw [ticked_len, HN.out] at c4
    by_cases hlt : k < n
    · have hkl : k < p.held.length := by rw [HN.out]; exact hlt
      have hkb : k < (ticked p.held k).length := by rw [ticked_len]; exact hkl
      obtain ⟨g, hA, hce⟩ := HS.out.at'.elem hkb
      dsimp only at hce
      rw [ticked_at hkl] at hce
      obtain ⟨x, hx⟩ : ∃ x, p.held[k] = x := ⟨_, rfl⟩
      have hokx : Hok N x := by rw [← hx]; exact HOK.out.held _ (List.getElem_mem hkl)
      have hdu : dueL (p.held.take (k + 1)) = if (tickH x).1 then dueL (p.held.take k) ++ [(tickH x).2] else dueL (p.held.take k) := by rw [List.take_succ_eq_append_getElem hkl, dueL_snoc, hx]
      have hts := ticked_set hkl
      rw [hx] at hce hts
      have hct := heldTick_any hce hokx
      have hat := ticked_at hkl
      rw [hx] at hat
      obtain ⟨b, hb⟩ : ∃ b, (tickH x).1 = b := ⟨_, rfl⟩
      rw [hb] at hct hdu
      have HDU := Lib.hid hdu
      have HCT := Lib.hid hct
      cases b with
      | false =>
        have e2 : (tickH x).2 = ⟨x.seq, x.pay, x.delay, (tickH x).2.left⟩ := by
          unfold tickH at hb ⊢
          split at hb
          · rename_i hgt
            rw [if_pos hgt]
          · cases hb
        have s1 := HS.out.at'.setH hA hkb (j := 3) (by decide) (u := .int .i64 (tickH x).2.left) rfl (x := (tickH x).2) (by dsimp only; rw [hat, e2]; rfl)
        dsimp only at s1
        rw [hts] at s1
        have HS2 := Lib.hid (HS.out.trans s1)
        have HV2 : Hid (OwnG 144 4 Hd.vals w.heap.size (wr.setCell ⟨g, k * 4 + 3, none⟩ (.int .i64 (tickH x).2.left)) (.slice V vn vc) (dueL (p.held.take (k + 1)))) := Lib.hid (by
          rw [hdu]
          exact row_only HV.out (Only.of_set wr ⟨g, k * 4 + 3, none⟩ _) fun i e e3 => by
            have h1 := (HV.out.lt i e).1
            have h2 := HWS.out g (Or.inr (by rw [hA]; rfl))
            have h3 : i = g := e3
            omega)
        subst hA
        clear hce s1 e2 hkb HS hct hdu hts hat hb hx hokx HV
        go_wp2_with fail
        refine HCT.out.mono ?_
        rintro r w3 ⟨rfl, _, hw3⟩
        rw [if_neg (by decide)] at hw3
        rw [← hw3] at HS2 HV2
        clear hw3 HCT
        go_wp2_with fail
        go_roundw
        case rel => exact ⟨k + 1, V, vn, vc, by omega, by go_num, rfl, HV2, HS2⟩
        case measure => simp [intOf]; omega
      | true =>
        have s1 := HS.out.at'.setH hA hkb (j := 3) (by decide) (u := .int .i64 (x.left - 1)) rfl (x := ⟨x.seq, x.pay, x.delay, x.left - 1⟩) (by dsimp only; rw [hat]; rfl)
        have s2 := s1.at'.setH (k := k) hA (by dsimp only; rw [List.length_set]; exact hkb) (j := 2) (by decide) (u := .int .i64 (tickH x).2.delay) rfl (x := ⟨x.seq, x.pay, (tickH x).2.delay, x.left - 1⟩) (by dsimp only; rw [List.getElem_set_self]; rfl)
        have e2 : (tickH x).2 = ⟨x.seq, x.pay, (tickH x).2.delay, (tickH x).2.left⟩ := by
          unfold tickH at hb ⊢
          split at hb
          · cases hb
          · rename_i hgt
            rw [if_neg hgt]
        have s3 := s2.at'.setH (k := k) hA (by dsimp only; rw [List.length_set, List.length_set]; exact hkb) (j := 3) (by decide) (u := .int .i64 (tickH x).2.left) rfl (x := (tickH x).2) (by dsimp only; rw [List.getElem_set_self, e2]; rfl)
        dsimp only at s1 s2 s3
        rw [List.set_set, List.set_set, hts] at s3
        have hst := ((HS.out.trans s1).trans s2).trans s3
        have HS2 := Lib.hid hst
        obtain ⟨w3, hw3⟩ : ∃ W, W = (((wr.setCell ⟨g, k * 4 + 3, none⟩ (.int .i64 (x.left - 1))).setCell ⟨g, k * 4 + 2, none⟩ (.int .i64 (tickH x).2.delay)).setCell ⟨g, k * 4 + 3, none⟩ (.int .i64 (tickH x).2.left)) := ⟨_, rfl⟩
        rw [← hw3] at HS2
        obtain ⟨y, hy⟩ : ∃ y, (tickH x).2 = y := ⟨_, rfl⟩
        have hkt : k < (ticked p.held (k + 1)).length := by rw [ticked_len]; exact hkl
        have hty : (ticked p.held (k + 1))[k] = y := by
          have h1 : (ticked p.held (k + 1))[k]? = some y := by
            rw [← hts, List.getElem?_set_self hkb, hy]
          rw [List.getElem?_eq_getElem hkt] at h1
          exact Option.some.inj h1
        obtain ⟨g2, hA2, hce3⟩ := HS2.out.at'.elem hkt
        dsimp only at hce3
        rw [hty] at hce3
        rw [hA] at hA2
        simp only [Option.some.injEq, Addr.mk.injEq] at hA2
        obtain ⟨rfl, _, _⟩ := hA2
        have z0 : w3.cell? ⟨g, k * 4, none⟩ = _ := hce3.cell (j := 0) rfl
        have z1 := hce3.cell (j := 1) rfl
        have z2 := hce3.cell (j := 2) rfl
        have z3 := hce3.cell (j := 3) rfl
        have d4 : w3.cell? ⟨pb, o + 4, none⟩ = _ := HS2.out.at'.cel.cell (j := 2) rfl
        dsimp only at d4
        rw [ticked_len, HN.out, hA] at d4
        have how3 : Only (fun i => i = g) wr w3 := by
          rw [hw3]
          exact ((Only.of_set wr ⟨g, k * 4 + 3, none⟩ _).trans (Only.of_set _ ⟨g, k * 4 + 2, none⟩ _) fun _ _ e => e).trans (Only.of_set _ ⟨g, k * 4 + 3, none⟩ _) fun _ _ e => e
        have hV3 : OwnG 144 4 Hd.vals w.heap.size w3 (.slice V vn vc) (dueL (p.held.take k)) := row_only HV.out how3 fun i e e3 => by
          have h1 := (HV.out.lt i e).1
          have h2 := HWS.out g (Or.inr (by rw [hA]; rfl))
          have h3 : i = g := e3
          omega
        obtain ⟨wd, hwd⟩ : ∃ W, W = w3.alloc (.cells #[.int .i64 y.seq, .string y.pay, .int .i64 y.delay, .int .i64 y.left] 144) := ⟨_, rfl⟩
        have hbd : Below w3.heap.size w3 wd := by rw [hwd]; exact below_alloc _ _
        have hcd : Cells wd w3.heap.size 144 y.vals := by rw [hwd]; exact cells_new _ _ _ _ rfl
        have hlen1 : (dueL (p.held.take k)).length + [y].length ≤ 100000 := by
          have h1 := dueL_len (p.held.take k)
          rw [List.length_take] at h1
          simp only [List.length_singleton]
          omega
        have hsl1 : Sl wd (some ⟨w3.heap.size, 0, none⟩) 4 ([y].map Hd.vals) := cells_sl (by simpa using hcd) (fun v hv => (fit_hd [_]).len v hv)
        obtain ⟨V', n', c', w5, hrun, hrow, hn', hon, hnb⟩ := OwnG.appS el_hd fit_hd (hV3.later hbd) (m := [y]) (c := 1) hsl1 (fun e => by cases e) (Nat.le_trans HS2.out.only.size hbd.size) hlen1
        have HS5 := Lib.hid ((HS2.out.after hbd).aside hon (fun i e => (hV3.lt i e).1) (HWS.out pb (Or.inl rfl)) fun i e => HWS.out i (Or.inr e.symm))
        have HV5 : Hid (OwnG 144 4 Hd.vals w.heap.size w5 (.slice V' n' c') (dueL (p.held.take (k + 1)))) := Lib.hid (by
          rw [hdu, if_pos rfl, hy]
          exact hrow)
        have HRUN := Lib.hid hrun
        have HW3 := Lib.hid hw3
        subst hA
        clear hce s1 e2 s2 s3 hst hkt hty hce3 how3 hV3 hbd hcd hsl1 hlen1 hrun hrow hn' hon hnb hkb HS hct hdu hts hat hb hx hokx HV hy hw3
        go_wp2_with fail
        refine HCT.out.mono ?_
        rintro r w3' ⟨rfl, _, hw3'⟩
        rw [if_pos trivial, ← HW3.out] at hw3'
        subst hw3'
        subst hwd
        clear HW3 HCT c4
        go_upto_region 6 with (fail)
        go_wp2_with (at_builtin
                     refine Lib.wpList_append_run (w3'.alloc (.cells #[.int .i64 y.seq, .string y.pay, .int .i64 y.delay, .int .i64 y.left] 144)) rfl (.tmp 20) (.tmp 28) 116 116 rfl (.slice V vn vc) (.slice (some ⟨w3'.heap.size, 0, none⟩) 1 1) rfl rfl _ _ HRUN.out ?_)
        go_roundw
        case rel => exact ⟨k + 1, V', n', c', by omega, by go_num, rfl, HV5, HS5⟩
        case measure => simp [intOf]; omega
    · obtain rfl : k = n := by omega
      have HF : Hid (PStep B pb o A w (tickP p).2 A ac wr) := Lib.hid (by
        have h1 := HS.out
        have e2 : ticked p.held k = p.held.map fun h => (tickH h).2 := by
          unfold ticked
          rw [List.take_of_length_le (by rw [HN.out]; exact Nat.le_refl _), List.drop_of_length_le (by rw [HN.out]; exact Nat.le_refl _), List.append_nil]
        rw [e2] at h1
        exact h1)
      have HV2 : Hid (OwnG 144 4 Hd.vals w.heap.size wr (.slice V vn vc) (dueL p.held)) := Lib.hid (by
        have h1 := HV.out
        rw [List.take_of_length_le (by rw [HN.out]; exact Nat.le_refl _)] at h1
        exact h1)
      go_wp2_with fail
      go_returns
      exact ⟨_, _, _, rfl, HV2.out, HF.out⟩
end
end Go.Proofs.Ytccdpgbmkiapdaa.Ses
