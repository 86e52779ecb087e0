/-
  Layer 14: a payload that is acknowledged is held no more (the library's DeleteFunc and IndexFunc of payloads).
  Conditions: none.
-/
import Derived.Test.YtccdpgbmkiapdaaL14
namespace Go.Proofs.Ytccdpgbmkiapdaa.Ses
set_option maxRecDepth 100000
open Go.RowKit Go.Deep Go.Proofs.Ytccdpgbmkiapdaa.Mem Go.Proofs.Ytccdpgbmkiapdaa.Win
/-- A row cut shorter. -/
theorem own_cut' {w : World} {B g n c k sz : Nat} {eT : TypeId} {xs : List Value} (h : w.ownsRow B eT sz (.slice (some ⟨g, 0, none⟩) n c) n xs) (hk : k ≤ n) : w.ownsRow B eT sz (.slice (some ⟨g, 0, none⟩) k c) k (xs.take (k * sz)) := by
 have hm : k * sz ≤ n * sz := Nat.mul_le_mul_right _ hk
 refine ⟨by rw [List.length_take, h.1]; omega, ?_⟩
 rcases h.2 with ⟨e, _⟩ | ⟨g', cap, cur, e, k2, k3, k4, k5, k6, k7⟩
 ·cases e
 ·simp only [Value.slice.injEq, Option.some.injEq, Addr.mk.injEq] at e
  obtain ⟨⟨rfl, _, _⟩, _, rfl⟩ := e
  exact Or.inr ⟨g, c, cur, rfl, k2, k3, by omega, k5, k6, by rw [← k7, List.take_take, Nat.min_eq_left hm]⟩
def zeroHd : Value := .agg #[.int .i64 0, .string ⟨#[]⟩, .int .i64 0, .int .i64 0]
def zeros (m : Nat) : List Value := (Builtin.zeroCells zeroHd.cells m).toList
theorem zeros_len (m : Nat) : (zeros m).length = m * 4 := by
 unfold zeros
 rw [Array.length_toList, size_zeroCells]
 rfl
theorem zeros_one (m : Nat) : ∀ v ∈ zeros m, v.oneCell' = true := by
 intro v hv
 unfold zeros Builtin.zeroCells at hv
 rw [Array.mem_toList_iff] at hv
 obtain ⟨i, _, rfl⟩ := Array.mem_map.1 hv
 have e : zeroHd.cells = #[.int .i64 0, .string ⟨#[]⟩, .int .i64 0, .int .i64 0] := rfl
 rw [e]
 obtain ⟨k, hk⟩ : ∃ k, i % 4 = k := ⟨_, rfl⟩
 have hk7 : k < 4 := by omega
 show (#[Value.int .i64 0, .string ⟨#[]⟩, .int .i64 0, .int .i64 0][i % 4]!).oneCell' = true
 rw [hk]
 match k, hk7 with
 | 0, _ | 1, _ | 2, _ | 3, _ => rfl
theorem run_clear_hd (w : World) (ty : TypeId) (b o m c : Nat) (hm : 0 < m) (ht : w.there b o (m * 4)) : (Builtin.clear_ #[116] ty #[.slice (some ⟨b, o, none⟩) m c]).run Try.prog w = .ok (.tuple #[]) (w.setCells b o (zeros m)) := by
 have hv : ∀ w, (zeroValue 144).run Try.prog w = .ok zeroHd w := fun w => Try.zeroValue144 w
 have hz : (Builtin.zeroCells zeroHd.cells m).toList = zeros m := rfl
 have hst := run_storeCells_cells (P := Try.prog) b o (zeros m) 0 w (fun j hj => by rw [Nat.add_zero]; rw [zeros_len] at hj; exact (ht j hj).1) (fun j hj => by rw [Nat.add_zero]; rw [zeros_len] at hj; exact (ht j hj).2) (zeros_one m)
 rw [Nat.add_zero] at hst
 obtain ⟨q, rfl⟩ : ∃ q, m = q + 1 := ⟨m - 1, by omega⟩
 simp [Builtin.clear_, run_underlying Try.underlying116, hv, hz, hst]
theorem go1_any (h : Hd) (q : Int) (b : Nat) (w : World) (hb : CellsO w b 0 [.int .i64 q]) :
  Calls Try.prog 71 #[.agg #[.int .i64 h.seq, .string h.pay, .int .i64 h.delay, .int .i64 h.left], .pointer (some ⟨b, 0, none⟩)] w fun e w' => e = .returned (.bool (decide (h.seq = q))) ∧ Below w.heap.size w w' := by
 obtain ⟨wa, hwa⟩ : ∃ W, W = w.alloc (.cells #[.int .i64 h.seq, .string h.pay, .int .i64 h.delay, .int .i64 h.left] 144) := ⟨_, rfl⟩
 have hba : Below w.heap.size w wa := by rw [hwa]; exact below_alloc _ _
 have hca : Cells wa w.heap.size 144 h.vals := by rw [hwa]; exact cells_new _ _ _ _ rfl
 have y0 := hca.cell (j := 0) rfl
 have z0 : wa.cell? ⟨b, 0, none⟩ = _ := (hb.later hba).cell (j := 0) rfl
 have HB := Lib.hid hba
 have e1 : decide (h.seq = q) = (h.seq == q) := rfl
 rw [e1]
 clear hba hca hb e1
 go_enter Try.func71, Try.ntmps71
 go_upto_region 1 with (fail)
 rw [← hwa]
 clear hwa
 go_wp2_with fail
 go_returns
 exact ⟨rfl, HB.out⟩
/-- Where a payload's number stands. -/
def seqAt (q : Int) : List Hd → Nat → Int
 | [], _ => -1
 | h :: l, n => if h.seq = q then (n : Int) else seqAt q l (n + 1)
theorem seqAt_drop (q : Int) : ∀ (l : List Hd) (n : Nat), (∀ t ∈ l.take n, t.seq ≠ q) → seqAt q l 0 = seqAt q (l.drop n) n := by
 have aux : ∀ (l : List Hd) (n s : Nat), (∀ t ∈ l.take n, t.seq ≠ q) → n ≤ l.length → seqAt q l s = seqAt q (l.drop n) (s + n) := by
  intro l
  induction l with
  | nil => intro n s _ hn; simp at hn; subst hn; rfl
  | cons t l ih =>
   intro n s h hn
   cases n with
   | zero => rfl
   | succ n =>
    show (if t.seq = q then (s : Int) else seqAt q l (s + 1)) = seqAt q (l.drop n) (s + (n + 1))
    rw [if_neg (h t (by simp)), ih n (s + 1) (fun u hu => h u (by simp [hu])) (by simpa using hn)]
    congr 1
    omega
 intro l n h
 by_cases hn : n ≤ l.length
 ·have := aux l n 0 h hn
  rwa [Nat.zero_add] at this
 ·have h2 := aux l l.length 0 (by rw [List.take_of_length_le (by omega)] at h ⊢; exact h) (Nat.le_refl _)
  rw [h2, List.drop_length, List.drop_of_length_le (by omega)]
  rfl
theorem seqAt_spec (q : Int) : ∀ (l : List Hd) (n : Nat), (seqAt q l n = -1 ∧ ∀ t ∈ l, t.seq ≠ q) ∨ ∃ (i : Nat) (h : i < l.length), seqAt q l n = ((n + i : Nat) : Int) ∧ l[i].seq = q ∧ ∀ t ∈ l.take i, t.seq ≠ q
 | [], _ => Or.inl ⟨rfl, fun t h => by cases h⟩
 | t :: l, n => by
  unfold seqAt
  by_cases h : t.seq = q
  ·rw [if_pos h]
   exact Or.inr ⟨0, by simp, rfl, h, fun t h => by simp at h⟩
  ·rw [if_neg h]
   rcases seqAt_spec q l (n + 1) with ⟨h1, h2⟩ | ⟨i, h1, h2, h3, h4⟩
   ·exact Or.inl ⟨h1, fun u hu => by rcases List.mem_cons.1 hu with rfl | hu; exact h; exact h2 u hu⟩
   ·refine Or.inr ⟨i + 1, by simpa using h1, by rw [h2]; congr 1; omega, by simpa using h3, fun u hu => ?_⟩
    rw [List.take_succ_cons] at hu
    rcases List.mem_cons.1 hu with rfl | hu
    ·exact h
    ·exact h4 u hu
set_option maxHeartbeats 1000000 in
theorem index_any {B : Nat} (A : Option Addr) (l : List Hd) (cap b : Nat) (q : Int) (w : World) (h : OwnG 144 4 Hd.vals B w (.slice A l.length cap) l) (hb : CellsO w b 0 [.int .i64 q]) (hl : l.length ≤ 1000) :
  Calls Try.prog 79 #[.slice A l.length cap, .func (.func 71) #[] #[.pointer (some ⟨b, 0, none⟩)]] w fun e w' => e = .returned (.int .i64 (seqAt q l 0)) ∧ Below w.heap.size w w' := by
 have HH := Lib.hid h
 have HP := Lib.hid hb
 obtain ⟨F, hF⟩ : ∃ F, seqAt q l 0 = F := ⟨_, rfl⟩
 have HF := Lib.hid hF
 rw [hF]
 obtain ⟨n, hn⟩ : ∃ n, l.length = n := ⟨_, rfl⟩
 have HN := Lib.hid hn
 rw [hn] at hl ⊢
 clear h hF hn hb
 go_enter Try.func79, Try.ntmps79
 go_wp2_with fail
 go_loopw [5, 8] (fun _ i wr => ∃ ii : Nat, ii ≤ n ∧ i = .int .i64 (ii : Int) ∧ Hid (∀ t ∈ l.take ii, t.seq ≠ q) ∧ Hid (Below w.heap.size w wr)) (fun _ i _ => n - (intOf i).toNat)
 case atStart => exact ⟨0, Nat.zero_le _, rfl, Lib.hid (fun t ht => by cases ht), Lib.hid (Below.refl _ _)⟩
 case round =>
  obtain ⟨ii, hii, rfl, hd, HB⟩ := hrel
  by_cases hlt : ii < n
  ·have hil : ii < l.length := by have := HN.out; omega
   obtain ⟨t, ht⟩ : ∃ t, l[ii] = t := ⟨_, rfl⟩
   obtain ⟨g, rfl, hr⟩ := OwnG.elem fit_hd (HH.out.later HB.out) hil
   rw [ht] at hr
   have x0 : wr.cell? ⟨g, ii * 4, none⟩ = _ := hr.cell (j := 0) rfl
   have x1 := hr.cell (j := 1) rfl
   have x2 := hr.cell (j := 2) rfl
   have x3 := hr.cell (j := 3) rfl
   have HC := Lib.hid (go1_any t q b wr (HP.out.later HB.out))
   obtain ⟨an, han⟩ : ∃ X, decide (t.seq = q) = X := ⟨_, rfl⟩
   rw [han] at HC
   have HE : Hid (an = true → F = (ii : Int)) := Lib.hid (fun e => by
    rw [← HF.out, seqAt_drop q l ii hd.out, List.drop_eq_getElem_cons hil, ht]
    show (if t.seq = q then (ii : Int) else _) = _
    rw [if_pos (of_decide_eq_true (han.trans e))])
   have HD2 : Hid (an = false → ∀ u ∈ l.take (ii + 1), u.seq ≠ q) := Lib.hid (fun e u hu => by
    rw [List.take_succ_eq_append_getElem hil, List.mem_append] at hu
    rcases hu with hu | hu
    ·exact hd.out u hu
    ·rw [List.mem_singleton.1 hu, ht]
     exact of_decide_eq_false (han.trans e))
   clear hr ht hil han
   go_wp2_with fail
   refine HC.out.mono ?_
   rintro e w2 ⟨rfl, hb2⟩
   have HB2 := Lib.hid (HB.out.trans (hb2.mono HB.out.size))
   clear hb2 x0 x1 x2 x3
   cases an with
   | true =>
    have HE2 := Lib.hid (HE.out rfl)
    go_wp2_with fail
    go_returns
    exact ⟨ret_int HE2.out.symm, HB2.out⟩
   | false =>
    have HDD := Lib.hid (HD2.out rfl)
    go_wp2_with fail
    go_roundw
    case rel => exact ⟨ii + 1, by omega, by go_num, HDD, HB2⟩
    case measure => simp [intOf]; omega
  ·have HE : Hid (F = -1) := Lib.hid (by
    rw [← HF.out, seqAt_drop q l ii hd.out, List.drop_of_length_le (by have := HN.out; omega)]; rfl)
   clear hd
   go_wp2_with fail
   go_returns
   exact ⟨ret_int HE.out.symm, HB.out⟩
/-- What is left of those that are held. -/
def keepL (q : Int) (l : List Hd) : List Hd := l.filter fun h => !decide (h.seq = q)
theorem keepL_none {q : Int} {l : List Hd} (h : ∀ t ∈ l, t.seq ≠ q) : keepL q l = l := by
 unfold keepL
 rw [List.filter_eq_self]
 intro t ht
 simp [h t ht]
theorem keepL_snoc (q : Int) (l : List Hd) (t : Hd) : keepL q (l ++ [t]) = if t.seq = q then keepL q l else keepL q l ++ [t] := by
 unfold keepL
 rw [List.filter_append]
 by_cases h : t.seq = q <;> simp [h]
/-- While payloads are deleted: i are kept so far, of the first j. -/
structure Del (B g n cap : Nat) (q : Int) (l : List Hd) (w0 : World) (i j : Nat) (cur : List Hd) (w : World) : Prop where
 row : OwnG 144 4 Hd.vals B w (.slice (some ⟨g, 0, none⟩) n cap) cur
 head : cur.take i = keepL q (l.take j)
 tail : cur.drop j = l.drop j
 len : cur.length = l.length
 cnt : (keepL q (l.take j)).length = i
 only : Only (fun k => k = g) w0 w
theorem Del.later {B g n cap i j : Nat} {q : Int} {l cur : List Hd} {w0 w w' : World} (h : Del B g n cap q l w0 i j cur w) (hb : Below w.heap.size w w') : Del B g n cap q l w0 i j cur w' :=
 ⟨h.row.later hb, h.head, h.tail, h.len, h.cnt, h.only.trans (S' := fun _ => False) (Only.of_below hb) fun _ _ e => e.elim⟩
theorem Del.skip {B g n cap i j : Nat} {q : Int} {l cur : List Hd} {w0 w : World} (h : Del B g n cap q l w0 i j cur w) (hj : j < l.length) (hq : l[j].seq = q) : Del B g n cap q l w0 i (j + 1) cur w := by
 have e : keepL q (l.take (j + 1)) = keepL q (l.take j) := by rw [List.take_succ_eq_append_getElem hj, keepL_snoc, if_pos hq]
 exact ⟨h.row, by rw [e]; exact h.head, by rw [← List.drop_drop (i := 1) (j := j), h.tail, List.drop_drop], h.len, by rw [e]; exact h.cnt, h.only⟩
theorem Del.take {B g n cap i j : Nat} {q : Int} {l cur : List Hd} {w0 w : World} (h : Del B g n cap q l w0 i j cur w) (hj : j < l.length) (hij : i < j) (hq : l[j].seq ≠ q) : Del B g n cap q l w0 (i + 1) (j + 1) (cur.set i l[j]) (w.setCells g (i * 4) l[j].vals) := by
 have e : keepL q (l.take (j + 1)) = keepL q (l.take j) ++ [l[j]] := by rw [List.take_succ_eq_append_getElem hj, keepL_snoc, if_neg hq]
 have hil : i < cur.length := by rw [h.len]; omega
 obtain ⟨r, ho⟩ := OwnG.putC fit_hd h.row hil l[j]
 refine ⟨r, ?_, ?_, by rw [List.length_set]; exact h.len, by rw [e, List.length_append, h.cnt, List.length_singleton], h.only.trans ho fun _ _ e => e⟩
 ·rw [e, ← h.head, List.take_succ_eq_append_getElem (by rw [List.length_set]; exact hil), List.take_set_of_le (Nat.le_refl _), List.getElem_set_self]
 ·rw [List.drop_set_of_lt (by omega), ← List.drop_drop (i := 1) (j := j), h.tail, List.drop_drop]
/-- All is gone over: what isn't kept is cleared. -/
theorem Del.done {B g n cap i : Nat} {q : Int} {l cur : List Hd} {w0 w : World} (h : Del B g n cap q l w0 i n cur w) (hn : l.length = n) (hi : i < n) :
  w.there g (i * 4) ((n - i) * 4) ∧ OwnG 144 4 Hd.vals B (w.setCells g (i * 4) (zeros (n - i))) (.slice (some ⟨g, 0, none⟩) i cap) (keepL q l) ∧ Only (fun k => k = g) w0 (w.setCells g (i * 4) (zeros (n - i))) := by
 have hk : l.take n = l := List.take_of_length_le (by omega)
 have hcl : cur.length = n := by rw [h.len, hn]
 have hr := h.row
 unfold OwnG at hr
 rw [hcl] at hr
 have e1 : i * 4 + (n - i) * 4 = n * 4 := by omega
 obtain ⟨r, ho, ht⟩ := row_put hr (o := i * 4) (l := zeros (n - i)) (by rw [zeros_len]; omega) (zeros_one _)
 rw [zeros_len] at ht
 have r2 := own_cut' r (Nat.le_of_lt hi)
 have hcnt := h.cnt
 rw [hk] at hcnt
 have e2 : (over (cur.map Hd.vals).flatten (i * 4) (zeros (n - i))).take (i * 4) = ((keepL q l).map Hd.vals).flatten := by
  have hfl := flatten_len (fit_hd cur).len
  rw [List.length_map, hcl] at hfl
  rw [over_eq, List.append_assoc, List.take_append_of_le_length (by rw [List.length_take]; omega), List.take_take, Nat.min_self, flat_take (fit_hd cur).len i (by rw [List.length_map]; omega), ← List.map_take, h.head, hk]
 rw [e2] at r2
 refine ⟨ht, ?_, h.only.trans ho fun _ _ e => e⟩
 unfold OwnG
 rw [hcnt]
 exact r2
set_option maxHeartbeats 1000000 in
theorem DeleteFunc_any {B : Nat} (A : Option Addr) (l : List Hd) (cap b : Nat) (q : Int) (w : World) (h : OwnG 144 4 Hd.vals B w (.slice A l.length cap) l) (hb : CellsO w b 0 [.int .i64 q]) (hbA : some b ≠ blk A) (hl : l.length ≤ 1000) :
  Calls Try.prog 70 #[.slice A l.length cap, .func (.func 71) #[] #[.pointer (some ⟨b, 0, none⟩)]] w fun e w' => e = .returned (.slice A (keepL q l).length cap) ∧ OwnG 144 4 Hd.vals B w' (.slice A (keepL q l).length cap) (keepL q l) ∧ Only (fun k => some k = blk A) w w' := by
 have HI := Lib.hid (index_any A l cap b q w h hb hl)
 have HH := Lib.hid h
 have HP := Lib.hid hb
 rcases seqAt_spec q l 0 with ⟨hat, hno⟩ | ⟨i, hil, hat, hiq, hno⟩
 ·rw [hat] at HI
  rw [keepL_none hno]
  obtain ⟨n, hn⟩ : ∃ n, l.length = n := ⟨_, rfl⟩
  rw [hn] at HI HH ⊢
  clear h hb hat hno hn hbA
  go_enter Try.func70, Try.ntmps70
  go_wp2_with fail
  refine HI.out.mono ?_
  rintro e w1 ⟨rfl, hb1⟩
  go_wp2_with fail
  go_returns
  exact ⟨rfl, HH.out.later hb1, Only.of_below hb1⟩
 ·rw [hat, Nat.zero_add] at HI
  obtain ⟨g, rfl, hgg⟩ := OwnG.elem fit_hd h hil
  have hbg : b ≠ g := fun e => hbA (by rw [e]; rfl)
  have HBG := Lib.hid hbg
  have HIQ := Lib.hid hiq
  have HIL := Lib.hid hil
  have HNO := Lib.hid hno
  have hcap : l.length ≤ cap := (cells_of_own (by unfold OwnG at h; exact h)).2.1
  obtain ⟨K, hK⟩ : ∃ K, keepL q l = K := ⟨_, rfl⟩
  obtain ⟨n, hn⟩ : ∃ n, l.length = n := ⟨_, rfl⟩
  have HN := Lib.hid hn
  have HK := Lib.hid hK
  have hin : i < n := by omega
  rw [hn] at HI HH hcap hl ⊢
  rw [hK]
  have HD0 : Hid (Del B g n cap q l w i (i + 1) l w) := Lib.hid (by
   have hk0 : keepL q (l.take i) = l.take i := keepL_none HNO.out
   have hlen : (l.take i).length = i := by rw [List.length_take]; omega
   have h0 : Del B g n cap q l w i i l w := ⟨HH.out, hk0.symm, rfl, rfl, by rw [hk0, hlen], Only.refl _ _⟩
   exact h0.skip hil HIQ.out)
  clear h hb hat hiq hno hbA hbg hn hK hgg
  have hwri : IntKind.i64.wrap ((i : Int) + 1) = (i : Int) + 1 := by rw [IntKind.wrap_i64]; omega
  go_enter Try.func70, Try.ntmps70
  go_wp2_with fail
  refine HI.out.mono ?_
  rintro e w1 ⟨rfl, hb1⟩
  have HD1 := Lib.hid (HD0.out.later hb1)
  have HB1 := Lib.hid (HP.out.later hb1)
  clear hb1 HD0
  have hij : ((i : Int) == -1) = false := by simp
  go_wp2_with fail
  go_loopw [5, 6, 7] (fun x y _ wr => ∃ (p j : Nat) (cur : List Hd), p < j ∧ j ≤ n ∧ x = .int .i64 (p : Int) ∧ y = .int .i64 (j : Int) ∧ Hid (Del B g n cap q l w p j cur wr) ∧ Hid (CellsO wr b 0 [.int .i64 q])) (fun _ y _ _ => n - (intOf y).toNat)
  case atStart => exact ⟨i, i + 1, l, by omega, by omega, rfl, by go_num, HD1, HB1⟩
  case round =>
   clear HD1 HB1
   obtain ⟨p, j, cur, hpj, hjn, rfl, rfl, HD, HB⟩ := hrel
   by_cases hlt : j < n
   ·have hjl : j < l.length := by rw [HN.out]; exact hlt
    have hjc : j < cur.length := by rw [HD.out.len]; exact hjl
    obtain ⟨t, ht⟩ : ∃ t, l[j] = t := ⟨_, rfl⟩
    have hct : cur[j] = t := by
     have h1 := congrArg (fun x => x[0]?) HD.out.tail
     simp only [List.getElem?_drop, Nat.add_zero] at h1
     rw [List.getElem?_eq_getElem hjc, List.getElem?_eq_getElem hjl, ht] at h1
     exact Option.some.inj h1
    obtain ⟨g2, e2, hr⟩ := OwnG.elem fit_hd HD.out.row hjc
    simp only [Option.some.injEq, Addr.mk.injEq] at e2
    obtain ⟨rfl, _, _⟩ := e2
    rw [hct] at hr
    have x0 : wr.cell? ⟨g, j * 4, none⟩ = _ := hr.cell (j := 0) rfl
    have x1 := hr.cell (j := 1) rfl
    have x2 := hr.cell (j := 2) rfl
    have x3 := hr.cell (j := 3) rfl
    obtain ⟨we, hwe⟩ : ∃ W, W = wr.alloc (.cells #[.int .i64 t.seq, .string t.pay, .int .i64 t.delay, .int .i64 t.left] 144) := ⟨_, rfl⟩
    have hbe : Below wr.heap.size wr we := by rw [hwe]; exact below_alloc _ _
    have hce : Cells we wr.heap.size 144 t.vals := by rw [hwe]; exact cells_new _ _ _ _ rfl
    have y0 := hce.cell (j := 0) rfl
    have y1 := hce.cell (j := 1) rfl
    have y2 := hce.cell (j := 2) rfl
    have y3 := hce.cell (j := 3) rfl
    have HC := Lib.hid (go1_any t q b we (HB.out.later hbe))
    have HDE := Lib.hid (HD.out.later hbe)
    have HBE := Lib.hid (HB.out.later hbe)
    have HCE := Lib.hid hce
    have HT := Lib.hid ht
    have HJ := Lib.hid hjl
    clear hr ht hct hbe hce hjc
    go_upto_region 8 with (fail)
    rw [← hwe]
    clear hwe x0 x1 x2 x3
    go_wp2_with fail
    refine HC.out.mono ?_
    rintro e w2 ⟨rfl, hb2⟩
    have HD2 := Lib.hid (HDE.out.later hb2)
    have HB2 := Lib.hid (HBE.out.later hb2)
    have hc2 := HCE.out.later hb2
    have y0 := hc2.cell (j := 0) rfl
    have y1 := hc2.cell (j := 1) rfl
    have y2 := hc2.cell (j := 2) rfl
    have y3 := hc2.cell (j := 3) rfl
    clear hb2 hc2 HC HD HB HDE HBE HCE
    by_cases htq : t.seq = q
    ·have e3 : decide (t.seq = q) = true := decide_eq_true htq
     rw [e3]
     have HD3 := Lib.hid (HD2.out.skip HJ.out (by rw [HT.out]; exact htq))
     clear htq e3
     go_wp2_with fail
     go_roundw
     case rel => exact ⟨p, j + 1, cur, by omega, by omega, rfl, by go_num, HD3, HB2⟩
     case measure => simp [intOf]; omega
    ·have e3 : decide (t.seq = q) = false := decide_eq_false htq
     rw [e3]
     have hpc : p < cur.length := by rw [HD2.out.len]; have := HJ.out; omega
     obtain ⟨g2, e2, hr⟩ := OwnG.elem fit_hd HD2.out.row hpc
     simp only [Option.some.injEq, Addr.mk.injEq] at e2
     obtain ⟨rfl, _, _⟩ := e2
     obtain ⟨z, hz⟩ : ∃ z, cur[p] = z := ⟨_, rfl⟩
     rw [hz] at hr
     have z0 : w2.cell? ⟨g, p * 4, none⟩ = _ := hr.cell (j := 0) rfl
     have z1 := hr.cell (j := 1) rfl
     have z2 := hr.cell (j := 2) rfl
     have z3 := hr.cell (j := 3) rfl
     have f0 : w2.frozen? ⟨g, p * 4, none⟩ = _ := hr.frozen (j := 0) (by simp [Hd.vals])
     have f1 := hr.frozen (j := 1) (by simp [Hd.vals])
     have f2 := hr.frozen (j := 2) (by simp [Hd.vals])
     have f3 := hr.frozen (j := 3) (by simp [Hd.vals])
     have hd3 := HD2.out.take HJ.out hpj (by rw [HT.out]; exact htq)
     rw [HT.out] at hd3
     have HD3 := Lib.hid hd3
     have HB3 : Hid (CellsO (w2.setCells g (p * 4) t.vals) b 0 [.int .i64 q]) := Lib.hid (HB2.out.only (OwnG.putC fit_hd HD2.out.row hpc t).2 HBG.out)
     have hwrp : IntKind.i64.wrap ((p : Int) + 1) = (p : Int) + 1 := by rw [IntKind.wrap_i64]; omega
     clear htq e3 hr hz hpc hd3
     go_wp2_with fail
     go_roundw
     case rel => exact ⟨p + 1, j + 1, cur.set p t, by omega, by omega, by go_num, by go_num, HD3, HB3⟩
     case measure => simp [intOf]; omega
   ·obtain rfl : j = n := by omega
    obtain ⟨d1, d2, d3⟩ := HD.out.done HN.out hpj
    obtain ⟨wz, hwz⟩ : ∃ W, W = wr.setCells g (p * 4) (zeros (j - p)) := ⟨_, rfl⟩
    have hcl := fun ty => run_clear_hd wr ty g (p * 4) (j - p) (cap - p) (by omega) d1
    rw [← hwz] at hcl d2 d3
    have hKl : K.length = p := by
     have h1 := HD.out.cnt
     rw [List.take_of_length_le (by rw [HN.out]; exact Nat.le_refl _), HK.out] at h1
     exact h1
    rw [HK.out] at d2
    have HD2 := Lib.hid d2
    have HD3 := Lib.hid d3
    have HKL := Lib.hid hKl
    clear d1 d2 d3 hwz hKl HD
    have b6 : ¬ cap = p := by omega
    have b5 : p ≤ cap := by omega
    have b7 : (p : Int) ≤ (j : Int) := by omega
    have b8 : (j : Int) ≤ (cap : Int) := by omega
    go_wp2_with fail
    go_returns
    exact ⟨by rw [HKL.out]; rfl, by rw [HKL.out]; exact HD2.out, HD3.out.mono fun k _ e => by rw [e]; rfl⟩
theorem letGo_any {B pb o ac : Nat} {w : World} {p : Pm} {A : Option Addr} (h : PAt B w pb o p A ac) (hl : p.held.length ≤ 1000) (q : Int) :
  Calls Try.prog 54 #[.pointer (some ⟨pb, o, none⟩), .int .i64 q] w fun e w' => e = .returned (.tuple #[]) ∧ ∃ A' ac', PStep B pb o A w (goP p q) A' ac' w' := by
 obtain ⟨wa, hwa⟩ : ∃ W, W = w.alloc (.cells #[.int .i64 q] 3) := ⟨_, rfl⟩
 have hba : Below w.heap.size w wa := by rw [hwa]; exact below_alloc _ _
 have hca : Cells wa w.heap.size 3 [.int .i64 q] := by rw [hwa]; exact cells_new _ _ _ _ rfl
 have ha := h.later hba
 have hne : some w.heap.size ≠ blk A := fun e => by
  have := (h.row.lt w.heap.size (by rw [own_blk]; exact e.symm)).2
  omega
 have HC := Lib.hid (DeleteFunc_any A p.held ac w.heap.size q wa ha.row (CellsO.of hca) hne hl)
 have HB := Lib.hid hba
 have HA := Lib.hid ha
 obtain ⟨n, hn⟩ : ∃ n, p.held.length = n := ⟨_, rfl⟩
 obtain ⟨K, hK⟩ : ∃ K, keepL q p.held = K := ⟨_, rfl⟩
 have HG : Hid (goP p q = ⟨p.L, p.known, p.last, K⟩) := Lib.hid (by rw [← hK]; rfl)
 have c4 : wa.cell? ⟨pb, o + 4, none⟩ = _ := ha.cel.cell (j := 2) rfl
 rw [hn] at HC c4
 rw [hK] at HC
 clear h hba hca ha hne hn hK hl
 go_enter Try.func54, Try.ntmps54
 go_upto_region 1 with (fail)
 rw [← hwa]
 clear hwa
 go_wp2_with fail
 refine HC.out.mono ?_
 rintro e w1 ⟨rfl, hr, ho⟩
 have hst := HA.out.setHeld ho hr (fun k e => Or.inl e.symm)
 have hc1 := HA.out.cel.only ho fun e => HA.out.nA pb e.symm rfl
 have d4 : w1.cell? ⟨pb, o + 4, none⟩ = _ := hc1.cell (j := 2) rfl
 have f4 : w1.frozen? ⟨pb, o + 4, none⟩ = _ := hc1.frozen (j := 2) (by simp)
 have HS := Lib.hid (hst.before HB.out)
 clear hr ho hst hc1 c4
 go_wp2_with fail
 go_returns
 exact ⟨rfl, A, ac, by rw [HG.out]; exact HS.out⟩
end Go.Proofs.Ytccdpgbmkiapdaa.Ses
