/-
  NetOrder is proved: packets that are taken one by one come in the order in which they were sent. Conditions: none.
-/
import Derived.Test.YtfhcfiebhagbeaaNetAwk
import Derived.Test.YtfhcfiebhagbeaaNetEq
import Derived.Test.YtfhcfiebhagbeaaReg4
namespace Go.Proofs.Ytfhcfiebhagbeaa.NetOrder
set_option maxRecDepth 100000
open Go.ChangeShapes Go.WideShapes Go.ChangeAt Go.RowKit Go.Deep Go.Proofs.Ytfhcfiebhagbeaa.Mem Go.Proofs.Ytfhcfiebhagbeaa.Net

def nc : Int → Int → Bool := fun _ _ => false
/-- A net, and a list of packets of the law's own. -/
structure Pair (B : Nat) (w : World) (b m : Nat) (fl S : List Pk) (A : Option Addr) (c : Nat) (V : Option Addr) (vc : Nat) : Prop where
  net : NetAt B w b m ⟨16, nc, fl⟩ A c
  row : w.ownsRow B 39 4 (.slice V S.length vc) S.length (S.map Pk.vals).flatten
  far : ∀ j, blk V = some j → ¬ foot b m A j
section
variable {B b m c vc : Nat} {w w' : World} {fl S : List Pk} {A V : Option Addr}
theorem Pair.later (h : Pair B w b m fl S A c V vc) (hb : Below w.heap.size w w') : Pair B w' b m fl S A c V vc := ⟨h.net.later hb, own_later h.row hb, h.far⟩
theorem Pair.step {fl' : List Pk} (h : Pair B w b m fl S A c V vc) (hs : NStep B b m A w ⟨16, nc, fl'⟩ w') : ∃ A' c', Pair B w' b m fl' S A' c' V vc := by
  obtain ⟨A', c', k1, k2, k3⟩ := hs
  refine ⟨A', c', k1, row_only h.row k2 fun k hk e => h.far k (by rw [own_blk] at hk; exact hk) e, fun j hj e => ?_⟩
  have hl := (h.row.lt j (by rw [own_blk]; exact hj)).2
  rcases e with e | e | e
  · exact h.far j hj (Or.inl e)
  · exact h.far j hj (Or.inr (Or.inl e))
  · rcases k3 j e with e1 | e1
    · exact h.far j hj (Or.inr (Or.inr e1))
    · omega
theorem Pair.at (h : Pair B w b m fl S A c V vc) {k : Nat} {p : Pk} (hp : S[k]? = some p) : ∃ g, V = some ⟨g, 0, none⟩ ∧ w.rangeAt g (k * 4) p.vals := by
  obtain ⟨hk, e⟩ := List.getElem?_eq_some_iff.1 hp
  rcases h.row.2 with ⟨_, h0⟩ | ⟨g, cap, cur, e1, _⟩
  · omega
  · simp only [Value.slice.injEq] at e1
    have hr := h.row
    rw [e1.1] at hr
    obtain ⟨hc, _⟩ := cells_of_own hr
    refine ⟨g, e1.1, fun j v hv => hc.cell ?_⟩
    have hj : j < 4 := (List.getElem?_eq_some_iff.1 hv).1
    rw [flatten_at (sz := 4) (fit_pks S).len k (by rw [List.length_map]; exact hk) j hj, List.getElem_map, e]
    exact hv
end
theorem Pair.more {B b m c vc : Nat} {w : World} {fl S : List Pk} {A V : Option Addr} (h : Pair B w b m fl S A c V vc) (p : Pk) (hB : B ≤ w.heap.size) (hS : S.length ≤ 1000) :
    ∃ V' vc' w', (Builtin.append_ #[31, 31] 31 #[.slice V S.length vc, .slice (some ⟨w.heap.size, 0, none⟩) 1 1]).run Try.prog (w.alloc (.cells #[.int .i64 p.src, .int .i64 p.dst, .string p.bytes, .bool p.spoilt] 39)) = .ok (.slice V' (S ++ [p]).length vc') w' ∧
      Pair B w' b m fl (S ++ [p]) A c V' vc' ∧ Below B w w' := by
  obtain ⟨wd, hwd⟩ : ∃ W, W = w.alloc (.cells #[.int .i64 p.src, .int .i64 p.dst, .string p.bytes, .bool p.spoilt] 39) := ⟨_, rfl⟩
  have hbd : Below w.heap.size w wd := by rw [hwd]; exact below_alloc _ _
  have hnew : Cells wd w.heap.size 39 p.vals := by rw [hwd]; exact cells_new w 39 p.vals _ rfl
  have hd := h.later hbd
  have hsl : Sl wd (some ⟨w.heap.size, 0, none⟩) 4 [p.vals] := cells_sl (by simpa using hnew) fun v hv => by rw [List.mem_singleton.1 hv]; rfl
  obtain ⟨v', w5, hrun, hrow, hg, hnb⟩ := run_append_rows el_pk wd 31 B (.slice V S.length vc) (S.map Pk.vals) [p.vals] (some ⟨w.heap.size, 0, none⟩) 1 (fit_pks _) ⟨fun v hv => by rw [List.mem_singleton.1 hv]; rfl, fun v hv => by rw [List.mem_singleton.1 hv]; exact pk_one p⟩
    (by simpa using hd.row) hsl (fun e => by cases e) (by simp; omega) (by have := hbd.size; omega)
  obtain ⟨V', vc', rfl⟩ := row_slice hrow
  rw [show S.map Pk.vals ++ [p.vals] = (S ++ [p]).map Pk.vals by simp, List.length_map] at hrun hrow hnb
  rw [own_blk] at hg hnb
  rw [own_blk] at hnb
  have ho : Only (fun k => some k = blk V) wd w5 := Only.of_grown hg
  rw [← hwd]
  refine ⟨V', vc', w5, hrun, ⟨hd.net.only ho fun k hk e => hd.far k e.symm hk, hrow, fun j hj e => ?_⟩, (hbd.mono hB).trans (ho.below (by have := hbd.size; omega) fun k e => (hd.row.lt k (by rw [own_blk]; exact e.symm)).1)⟩
  rcases hnb with e1 | e1
  · exact hd.far j (by rw [← e1]; exact hj) e
  · rw [e1] at hj
    have h1 := (hd.net.lt e).2
    have h2 := Option.some.inj hj
    omega
/-- What is left when j have been taken. -/
def cur (back : Bool) (S : List Pk) (j : Nat) : List Pk := if back then S.take (S.length - j) else S.drop j
theorem take_first {fl : List Pk} {p : Pk} (h : fl[0]? = some p) : takeN ⟨16, nc, fl⟩ 0 = (p, 0, ⟨16, nc, fl.drop 1⟩) := by
  have hl : 0 < fl.length := (List.getElem?_eq_some_iff.1 h).1
  unfold takeN hasN
  simp only [Int.toNat_zero, h, Option.getD_some]
  rw [if_pos (by simp; omega)]
  simp [rm]
theorem take_last {fl : List Pk} {p : Pk} {q : Nat} (h : fl[q]? = some p) (hq : fl.length = q + 1) : takeN ⟨16, nc, fl⟩ (q : Int) = (p, 0, ⟨16, nc, fl.take q⟩) := by
  unfold takeN hasN
  simp only [Int.toNat_natCast, h, Option.getD_some]
  rw [if_pos (by simp; omega)]
  unfold rm
  rw [List.drop_of_length_le (by omega), List.append_nil]
theorem send_16 (fl : List Pk) (p : Pk) (h : fl.length < 256) : send1 ⟨16, nc, fl⟩ p = if betw 16 p.src p.dst then (⟨16, nc, fl ++ [p]⟩, 0) else (⟨16, nc, fl⟩, 1) := by
  unfold send1 wholeN nc
  simp [h]
def netOrd20 (b g jj q q1 s r : Nat) (vv : Value) (p : Pk) : Nat → Value → World → Prop
  | 0, v, _ => v = .pointer (some ⟨b, 0, none⟩)
  | 1, v, _ => v = .int .i64 (q1 : Int)
  | 2, v, _ => v = .int .i64 (q : Int)
  | 3, v, _ => v = vv
  | 4, v, _ => v = vv
  | 5, v, _ => v = .int .i64 (s : Int)
  | 6, v, _ => v = .int .i64 (r : Int)
  | 7, v, _ => v = .int .i64 (jj : Int)
  | 8, v, _ => v = .int .i64 (q : Int)
  | 9, v, _ => v = .pointer (some ⟨g, q * 4, none⟩)
  | 10, v, _ => v = .agg #[.int .i64 p.src, .int .i64 p.dst, .string p.bytes, .bool p.spoilt]
  | 11, v, _ => v = .int .i64 (q : Int)
  | 12, _, _ => True
  | _, _, _ => True
theorem netOrd20_later {b g jj q q1 s r : Nat} {vv : Value} {p : Pk} {j : Nat} {v : Value} {w w' : World} (_hb : Below w.heap.size w w') (h : netOrd20 b g jj q q1 s r vv p j v w) : netOrd20 b g jj q q1 s r vv p j v w' := by
  match j, h with
  | 0, h | 1, h | 2, h | 3, h | 4, h | 5, h | 6, h | 7, h | 8, h | 9, h | 10, h | 11, h | 12, h => exact h
  | _ + 13, _ => exact trivial
theorem netOrd20_keep {b g jj q q1 s r : Nat} {vv : Value} {p : Pk} {j : Nat} {v : Value} {w w' : World}  (h : netOrd20 b g jj q q1 s r vv p j v w) : netOrd20 b g jj q q1 s r vv p j v w' := by
  match j, h with
  | 0, h | 1, h | 2, h | 3, h | 4, h | 5, h | 6, h | 7, h | 8, h | 9, h | 10, h | 11, h | 12, h => exact h
  | _ + 13, _ => exact trivial
set_option maxHeartbeats 1000000 in
theorem walk (A : Option Addr) (l : List Pk) (cap : Nat) (back : Bool) (w : World) (h : Pks w A l) (hl : l.length ≤ 140737488351232) (hok : ∀ p ∈ l, p.ok) :
    Calls Try.prog 6 #[.slice A l.length cap, .bool back] w fun e w' => e = .returned (.bool true) ∧ Below w.heap.size w w' := by
  have HC := Lib.hid (awake_any w)
  obtain ⟨n, hn⟩ : ∃ n, l.length = n := ⟨_, rfl⟩
  have HLN := Lib.hid hn
  have HH := Lib.hid h
  have HOK := Lib.hid hok
  rw [hn] at hl ⊢
  clear h hok hn
  by_cases hgt : 256 < n
  · have e1 : decide ((n : Int) > 256) = true := by simp; omega
    go_enter Try.func6, Try.ntmps6
    go_wp2_with fail
    refine HC.out.mono ?_
    rintro e w1 ⟨rfl, hb1⟩
    go_wp2_with fail
    go_returns
    exact ⟨rfl, hb1⟩
  · have e1 : decide ((n : Int) > 256) = false := by simp; omega
    go_enter Try.func6, Try.ntmps6
    go_wp2_with fail
    refine HC.out.mono ?_
    rintro e w1 ⟨rfl, hb1⟩
    have HB1 := Lib.hid hb1
    have HC := Lib.hid (New_any 16 w1 (by decide) (by decide))
    clear hb1
    go_wp2_with fail
    refine HC.out.mono ?_
    rintro e w2 ⟨b, m, rfl, hn2, hb2⟩
    have HB2 := Lib.hid hb2
    have HST : Hid (Pair w1.heap.size w2 b m [] [] none 0 none 0) := Lib.hid ⟨hn2, World.ownsRow_nil _ _ _ _, fun j e => by cases e⟩
    clear hn2 hb2 HC
    go_wp2_with fail
    go_loopw [7, 9, 28] (fun v _ i wr => ∃ (k : Nat) (S : List Pk) (A1 : Option Addr) (c1 : Nat) (V : Option Addr) (vc : Nat), k ≤ n ∧ i = .int .i64 (k : Int) ∧ v = .slice V S.length vc ∧ S.length ≤ k ∧ Hid (Pair w1.heap.size wr b m S S A1 c1 V vc) ∧ Hid (Below w1.heap.size w1 wr)) (fun _ _ i _ => n - (intOf i).toNat)
    case atStart => exact ⟨0, [], none, 0, none, 0, Nat.zero_le _, rfl, rfl, Nat.zero_le _, HST, HB2⟩
    case round =>
      obtain ⟨k, S, A1, c1, V, vc, hk, rfl, rfl, hsk, HP, HB⟩ := hrel
      by_cases hkn : k < n
      · have hkl : k < l.length := by rw [HLN.out]; exact hkn
        obtain ⟨g, off, rfl, x0, x1, x2, x3⟩ := ((HH.out.later HB1.out).later HB.out).at hkl
        obtain ⟨p, hp⟩ : ∃ p, l[k] = p := ⟨_, rfl⟩
        rw [hp] at x0 x1 x2 x3
        have hpok := HOK.out p (by rw [← hp]; exact List.getElem_mem hkl)
        obtain ⟨wp, hwp⟩ : ∃ W, W = wr.alloc (.cells #[.int .i64 p.src, .int .i64 p.dst, .string p.bytes, .bool p.spoilt] 39) := ⟨_, rfl⟩
        have hbp : Below wr.heap.size wr wp := by rw [hwp]; exact below_alloc _ _
        have hcp : Cells wp wr.heap.size 39 p.vals := by rw [hwp]; exact cells_new _ _ _ _ rfl
        have HBP := Lib.hid (HB.out.trans (hbp.mono HB.out.size))
        have HPP := Lib.hid (HP.out.later hbp)
        have HFT : Hid (∀ j, foot b m A1 j → j < wr.heap.size) := Lib.hid fun j e => (HP.out.net.lt e).2
        have HCP := Lib.hid hcp
        have HS := Lib.hid (send_one HPP.out.net p hpok HBP.out.size)
        rw [send_16 S p (by omega)] at HS
        obtain ⟨bt, hbt⟩ : ∃ B, betw 16 p.src p.dst = B := ⟨_, rfl⟩
        rw [hbt] at HS
        have y0 := hcp.cell (j := 0) rfl
        have y1 := hcp.cell (j := 1) rfl
        have y2 := hcp.cell (j := 2) rfl
        have y3 := hcp.cell (j := 3) rfl
        clear hkl hp hpok hbp hcp hbt
        go_upto_region 12 with (fail)
        rw [← hwp]
        clear hwp x0 x1 x2 x3
        cases bt
        · simp only [Bool.false_eq_true, if_false] at HS
          go_wp2_with fail
          refine HS.out.mono ?_
          rintro e ws ⟨rfl, hst⟩
          obtain ⟨A2, c2, hP2⟩ := HPP.out.step hst
          have HP2 := Lib.hid hP2
          have HB2' := Lib.hid (HBP.out.trans (hst.below HPP.out.net HBP.out.size))
          clear hst hP2 HS y0 y1 y2 y3
          go_wp2_with fail
          go_roundw
          case rel => exact ⟨k + 1, S, A2, c2, V, vc, by omega, by go_num, rfl, by omega, HP2, HB2'⟩
          case measure => simp [intOf]; omega
        · simp only [if_true] at HS
          go_wp2_with fail
          refine HS.out.mono ?_
          rintro e ws ⟨rfl, hst⟩
          obtain ⟨A2, c2, hP2⟩ := HPP.out.step hst
          have HB2' := Lib.hid (HBP.out.trans (hst.below HPP.out.net HBP.out.size))
          obtain ⟨_, _, _, hos, _⟩ := hst
          have hcs := cells_only HCP.out hos fun e => by have := HFT.out _ e; omega
          have z0 := hcs.cell (j := 0) rfl
          have z1 := hcs.cell (j := 1) rfl
          have z2 := hcs.cell (j := 2) rfl
          have z3 := hcs.cell (j := 3) rfl
          obtain ⟨V', vc', wu, hrun, hP3, hb3⟩ := hP2.more p HB2'.out.size (by omega)
          obtain ⟨s1, hs1⟩ : ∃ s1, (S ++ [p]).length = s1 := ⟨_, rfl⟩
          have hs2 : s1 ≤ k + 1 := by rw [← hs1]; simp; omega
          have HRUN := Lib.hid hrun
          have HP3 := Lib.hid hP3
          have HS1 := Lib.hid hs1
          have HB3 := Lib.hid (HB2'.out.trans hb3)
          rw [hs1] at HRUN
          clear hP2 hos hcs hrun hP3 hb3 hs1 HS y0 y1 y2 y3 HCP HFT HPP
          go_wp2_with (at_builtin
                       refine Lib.wpList_append_run (ws.alloc (.cells #[.int .i64 p.src, .int .i64 p.dst, .string p.bytes, .bool p.spoilt] 39)) rfl (.tmp 37) (.tmp 39) 31 31 rfl (.slice V S.length vc) (.slice (some ⟨ws.heap.size, 0, none⟩) 1 1) rfl rfl _ _ HRUN.out ?_)
          go_roundw
          case rel => exact ⟨k + 1, S ++ [p], A2, c2, V', vc', by omega, by go_num, by rw [HS1.out], by rw [HS1.out]; exact hs2, HP3, HB3⟩
          case measure => simp [intOf]; omega
      · obtain rfl : k = n := by omega
        obtain ⟨s, hs⟩ : ∃ s, S.length = s := ⟨_, rfl⟩
        rw [hs] at hsk ⊢
        have HS := Lib.hid hs
        clear HH HOK HLN HST hs e1
        go_wp2_with fail
        go_loopw [44] (fun i wr => ∃ (j : Nat) (A2 : Option Addr) (c2 : Nat), j ≤ s ∧ i = .int .i64 (j : Int) ∧ Hid (Pair w1.heap.size wr b m (cur back S j) S A2 c2 V vc) ∧ Hid (Below w1.heap.size w1 wr)) (fun i _ => s - (intOf i).toNat)
        case atStart => exact ⟨0, A1, c1, Nat.zero_le _, rfl, Lib.hid (by unfold cur; cases back <;> simpa using HP.out), HB⟩
        case round =>
          clear HP HB HB2
          obtain ⟨j, A2, c2, hj, rfl, HP, HB⟩ := hrel
          by_cases hjs : j < s
          · obtain ⟨q, hq⟩ : ∃ q, s = j + q + 1 := ⟨s - j - 1, by omega⟩
            obtain ⟨q1, hq1⟩ : ∃ q1, q1 = q + 1 := ⟨_, rfl⟩
            obtain ⟨r, hr0⟩ : ∃ r, r = j + q := ⟨_, rfl⟩
            have HQR : Hid (s = j + q + 1 ∧ q1 = q + 1 ∧ r = j + q ∧ s ≤ 256) := Lib.hid ⟨hq, hq1, hr0, by omega⟩
            clear hq hq1 hr0
            obtain ⟨p, hp⟩ : ∃ p, S[j]? = some p := ⟨_, List.getElem?_eq_getElem (by have := HS.out; have := HQR.out; omega)⟩
            obtain ⟨p2, hp2⟩ : ∃ p2, S[q]? = some p2 := ⟨_, List.getElem?_eq_getElem (by have := HS.out; have := HQR.out; omega)⟩
            obtain ⟨g, rfl, hr⟩ := HP.out.at hp
            obtain ⟨g', eg, hr2⟩ := HP.out.at hp2
            obtain rfl : g = g' := by simpa using eg
            have bd : Below wr.heap.size wr wr.drew := (Below.refl _ _).drew
            have bz : Below wr.heap.size wr (wr.alloc (.cells #[.int .i64 0, .int .i64 0, .string ⟨#[]⟩, .bool false] 39)).drew := (below_alloc wr (.cells #[.int .i64 0, .int .i64 0, .string ⟨#[]⟩, .bool false] 39)).drew
            have x0 := range_later hr bd 0 _ rfl
            have x1 := range_later hr bd 1 _ rfl
            have x2 := range_later hr bd 2 _ rfl
            have x3 := range_later hr bd 3 _ rfl
            have z0 := range_later hr bz 0 _ rfl
            have z1 := range_later hr bz 1 _ rfl
            have z2 := range_later hr bz 2 _ rfl
            have z3 := range_later hr bz 3 _ rfl
            rw [Nat.add_zero] at x0 z0
            obtain ⟨we, hwe⟩ : ∃ W, W = (wr.alloc (.cells #[.int .i64 p.src, .int .i64 p.dst, .string p.bytes, .bool p.spoilt] 39)).drew := ⟨_, rfl⟩
            have hbe : Below wr.heap.size wr we := by rw [hwe]; exact (below_alloc _ _).drew
            have HW : Hid (Cells we wr.heap.size 39 p.vals) := Lib.hid (by
              rw [hwe]
              exact (cells_new wr 39 p.vals _ rfl).later (Below.refl _ _).drew)
            have HPE := Lib.hid (HP.out.later hbe)
            have HBE := Lib.hid (HB.out.trans (hbe.mono HB.out.size))
            have HQ := Lib.hid (range_later hr2 hbe)
            have HFT : Hid (∀ i, foot b m A2 i → i < wr.heap.size) := Lib.hid fun i e => (HP.out.net.lt e).2
            have HRW : Hid (∀ i, blk (some ⟨g, 0, none⟩) = some i → i < wr.heap.size) := Lib.hid fun i e => (HP.out.row.lt i (by rw [own_blk]; exact e)).2
            have HB0 := Lib.hid HB.out.size
            clear hr hr2 bd bz hbe eg HP HB
            go_upto_region 18 with (fail)
            go_region
            rw [← hwe]
            clear hwe x0 x1 x2 x3 z0 z1 z2 z3
            have HS0 := Lib.hid hp
            have HS1 := Lib.hid hp2
            clear hp hp2
            cases back
            · have HPF : Hid (Pair w1.heap.size we b m (S.drop j) S A2 c2 (some ⟨g, 0, none⟩) vc) := Lib.hid HPE.out
              have HBF := Lib.hid HBE.out
              have HWF := Lib.hid HW.out
              have HT := Lib.hid (Take_any HPF.out.net 0)
              rw [take_first (p := p) (by rw [List.getElem?_drop]; exact HS0.out)] at HT
              dsimp only at HT
              rw [List.drop_drop] at HT
              clear HPE HBE HW HQ
              go_wp2_with fail
              refine HT.out.mono ?_
              rintro e wt ⟨rfl, hst⟩
              obtain ⟨A3, c3, hP3⟩ := HPF.out.step hst
              have hb3 := HBF.out.trans (hst.below HPF.out.net HBF.out.size)
              obtain ⟨_, _, _, hos, _⟩ := hst
              have hcw := cells_only HWF.out hos fun e => by have := HFT.out _ e; omega
              obtain ⟨wu, hwu⟩ : ∃ W, W = wt.alloc (.cells #[.int .i64 p.src, .int .i64 p.dst, .string p.bytes, .bool p.spoilt] 39) := ⟨_, rfl⟩
              have hbu : Below wt.heap.size wt wu := by rw [hwu]; exact below_alloc _ _
              have hcu : Cells wu wt.heap.size 39 p.vals := by rw [hwu]; exact cells_new _ _ _ _ rfl
              have hcv := hcw.later hbu
              have HPU := Lib.hid (hP3.later hbu)
              have HBU := Lib.hid (hb3.trans (hbu.mono hb3.size))
              have y0 := hcu.cell (j := 0) rfl
              have y1 := hcu.cell (j := 1) rfl
              have y2 := hcu.cell (j := 2) rfl
              have y3 := hcu.cell (j := 3) rfl
              have v0 := hcv.cell (j := 0) rfl
              have v1 := hcv.cell (j := 1) rfl
              have v2 := hcv.cell (j := 2) rfl
              have v3 := hcv.cell (j := 3) rfl
              have hne := fun w => pk_neq p p w
              rw [decide_eq_true rfl, Bool.not_true] at hne
              unfold Pk.val at hne ⊢
              clear hos hcw hbu hcu hcv hP3 hb3 HT HPF HBF HWF HFT
              go_upto_region 22 with (fail)
              rw [← hwu]
              clear hwu
              go_wp2_with fail
              go_roundw
              case rel => exact ⟨j + 1, A3, c3, by omega, by go_num, HPU, HBU⟩
              case measure => simp [intOf]; omega
            · have HPF0 : Hid (Pair w1.heap.size we b m (S.take q1) S A2 c2 (some ⟨g, 0, none⟩) vc) := Lib.hid (by
                have h1 := HPE.out
                unfold cur at h1
                rw [HS.out, show s - j = q1 by have := HQR.out; omega] at h1
                exact h1)
              have HTL : Hid ((S.take q1).length = q1) := Lib.hid (by rw [List.length_take, HS.out]; have := HQR.out; omega)
              have HLEN : Hid (∀ wi, Below we.heap.size we wi → Calls Try.prog 24 #[.pointer (some ⟨b, 0, none⟩)] wi fun e w' => e = .returned (.int .i64 (q1 : Int)) ∧ w' = wi) := Lib.hid (fun wi hb => by
                have h1 := Len_any (HPF0.out.net.later hb)
                dsimp only at h1
                rw [HTL.out] at h1
                exact h1)
              clear HPE
              go_upto_region 20 with (fail)
              refine Reg.region_heavy (by kernel_rfl) 12 [11] (netOrd20 b g j q q1 s r (.slice (some ⟨g, 0, none⟩) s vc) p2) (fun a => Below we.heap.size we a) (fun a => Cells a wr.heap.size 39 p2.vals ∧ Only (fun k => k = wr.heap.size) we a) (fun V => [(some 52, V 0), (some 53, V 1), (some 54, V 2), (some 55, V 3), (some 56, V 4), (some 57, V 5), (some 58, V 6), (some 59, V 7), (some 60, V 8), (some 61, V 9), (some 62, V 10), (some 11, V 11), (none, V 12)]) (by kernel_rfl) (by kernel_rfl) (by kernel_rfl) (fun V => rfl) ?_ ?_ ?_
              · exact (Below.refl _ _).drew
              · intro i o ho
                have hi : i < 13 := (Array.getElem?_eq_some_iff.1 ho).1
                rcases i with _ | _ | _ | _ | _ | _ | _ | _ | _ | _ | _ | _ | _ | i
                rotate_right
                · omega
                all_goals obtain rfl := Option.some.inj ho
                all_goals intro ρ wi hE hI hs hd
                all_goals try dsimp only at hI
                · have e5 : ρ (.tmp 5) = .pointer (some ⟨b, 0, none⟩) := hs 5; exact Reg.gw hI
                · obtain ⟨_, rfl, e52⟩ := hd 0 52; have hf := hE.func
                  refine Reg.Gives.call (f := 24) (args := #[.pointer (some ⟨b, 0, none⟩)]) (w' := wi) (by go_simp) ?_
                  refine (HLEN.out wi hI).mono ?_
                  rintro e w'' ⟨rfl, rfl⟩
                  exact ⟨_, rfl, Reg.OwedH.same hI rfl⟩
                · obtain ⟨_, rfl, e53⟩ := hd 1 53; have hc := hE.const
                  have y1 : IntKind.i64.wrap ((q1 : Int) - 1) = (q : Int) := by rw [IntWalk.i64_in _ (by have := HQR.out; omega)]; have := HQR.out; omega
                  exact Reg.gw hI
                · have e7 : ρ (.tmp 7) = .slice (some ⟨g, 0, none⟩) s vc := hs 7; exact Reg.gw hI
                · have e7 : ρ (.tmp 7) = .slice (some ⟨g, 0, none⟩) s vc := hs 7; exact Reg.gw hI
                · obtain ⟨_, rfl, e56⟩ := hd 4 56; exact Reg.gw hI
                · obtain ⟨_, rfl, e57⟩ := hd 5 57; have hc := hE.const
                  have y1 : IntKind.i64.wrap ((s : Int) - 1) = (r : Int) := by rw [IntWalk.i64_in _ (by have := HQR.out; omega)]; have := HQR.out; omega
                  exact Reg.gw hI
                · have e10 : ρ (.tmp 10) = .int .i64 (j : Int) := hs 10; exact Reg.gw hI
                · obtain ⟨_, rfl, e58⟩ := hd 6 58; obtain ⟨_, rfl, e59⟩ := hd 7 59
                  have y1 : IntKind.i64.wrap ((r : Int) - (j : Int)) = (q : Int) := by rw [IntWalk.i64_in _ (by have := HQR.out; omega)]; have := HQR.out; omega
                  exact Reg.gw hI
                · obtain ⟨_, rfl, e55⟩ := hd 3 55; obtain ⟨_, rfl, e60⟩ := hd 8 60
                  have y1 : q < s := by have := HQR.out; omega
                  have y2 : (q : Int) < (s : Int) := by omega
                  exact Reg.gw hI
                · obtain ⟨_, rfl, e61⟩ := hd 9 61; have x0 := (range_later HQ.out hI) 0 _ rfl
                  rw [Nat.add_zero] at x0
                  have x1 := (range_later HQ.out hI) 1 _ rfl; have x2 := (range_later HQ.out hI) 2 _ rfl; have x3 := (range_later HQ.out hI) 3 _ rfl; exact Reg.gw hI
                · obtain ⟨_, rfl, e54⟩ := hd 2 54; exact Reg.gw hI
                · have e12 : ρ (.tmp 12) = .pointer (some ⟨wr.heap.size, 0, none⟩) := hs 12; obtain ⟨_, rfl, e62⟩ := hd 10 62; obtain ⟨k1, k2⟩ := (HW.out.later hI).put (l := p2.vals) rfl; have k3 := (HW.out.later hI).there (n := 4) (Nat.le_refl 4)
                  exact Reg.Gives.skip (exec_store 39 _ _ rfl wr.heap.size 0 #[.int .i64 p2.src, .int .i64 p2.dst, .string p2.bytes, .bool p2.spoilt] (by assumption) (by assumption) (run_storeVar_mid _ wr.heap.size 0 39 #[.int .i64 p2.src, .int .i64 p2.dst, .string p2.bytes, .bool p2.spoilt] k3 (by kernel_rfl) (by simp [Value.oneCell']))) ⟨trivial, ⟨k1, (Only.of_below hI).trans k2 fun _ _ e => e⟩, fun _ _ _ _ h => netOrd20_keep h⟩
              · intro V wf hV hI
                have hV11 : V 11 = .int .i64 (q : Int) := hV 11 (by decide) rfl
                simp only [Reg.putsO, List.foldl_cons, List.foldl_nil, Act.put, List.setIfInBounds_toArray, List.set_cons_succ, List.set_cons_zero, hV11]
                replace hI : (fun a => Cells a wr.heap.size 39 p2.vals ∧ Only (fun k => k = wr.heap.size) we a) wf := hI
                clear hV hV11
                have HPF : Hid (Pair w1.heap.size wf b m (S.take q1) S A2 c2 (some ⟨g, 0, none⟩) vc) := Lib.hid (by
                  have h1 := HPF0.out
                  refine ⟨h1.net.only hI.2 fun k hk e => ?_, row_only h1.row hI.2 fun k hk e => ?_, h1.far⟩
                  · have := HFT.out k hk; omega
                  · have h3 := HRW.out k (by rw [own_blk] at hk; exact hk)
                    omega)
                have HBF := Lib.hid (HBE.out.trans (hI.2.below (B := w1.heap.size) HBE.out.size fun k e => by have := HB0.out; omega))
                have HWF := Lib.hid hI.1
                have HT := Lib.hid (Take_any HPF.out.net (q : Int))
                rw [take_last (p := p2) (by rw [List.getElem?_take_of_lt (by have := HQR.out; omega)]; exact HS1.out) (HTL.out.trans HQR.out.2.1), List.take_take, Nat.min_eq_left (by have := HQR.out; omega)] at HT
                dsimp only at HT
                clear HPF0 HBE HW HQ HLEN hI
                go_wp2_with fail
                refine HT.out.mono ?_
                rintro e wt ⟨rfl, hst⟩
                obtain ⟨A3, c3, hP3⟩ := HPF.out.step hst
                have hb3 := HBF.out.trans (hst.below HPF.out.net HBF.out.size)
                obtain ⟨_, _, _, hos, _⟩ := hst
                have hcw := cells_only HWF.out hos fun e => by have := HFT.out _ e; omega
                obtain ⟨wu, hwu⟩ : ∃ W, W = wt.alloc (.cells #[.int .i64 p2.src, .int .i64 p2.dst, .string p2.bytes, .bool p2.spoilt] 39) := ⟨_, rfl⟩
                have hbu : Below wt.heap.size wt wu := by rw [hwu]; exact below_alloc _ _
                have hcu : Cells wu wt.heap.size 39 p2.vals := by rw [hwu]; exact cells_new _ _ _ _ rfl
                have hcv := hcw.later hbu
                have HPU := Lib.hid (hP3.later hbu)
                have HBU := Lib.hid (hb3.trans (hbu.mono hb3.size))
                have y0 := hcu.cell (j := 0) rfl
                have y1 := hcu.cell (j := 1) rfl
                have y2 := hcu.cell (j := 2) rfl
                have y3 := hcu.cell (j := 3) rfl
                have v0 := hcv.cell (j := 0) rfl
                have v1 := hcv.cell (j := 1) rfl
                have v2 := hcv.cell (j := 2) rfl
                have v3 := hcv.cell (j := 3) rfl
                have hne := fun w => pk_neq p2 p2 w
                rw [decide_eq_true rfl, Bool.not_true] at hne
                unfold Pk.val at hne ⊢
                clear hos hcw hbu hcu hcv hP3 hb3 HT HPF HBF HWF HFT
                go_upto_region 22 with (fail)
                rw [← hwu]
                clear hwu
                go_wp2_with fail
                go_roundw
                case rel => exact ⟨j + 1, A3, c3, by omega, by go_num, Lib.hid (by unfold cur; rw [HS.out, show s - (j + 1) = q by have := HQR.out; omega]; exact HPU.out), HBU⟩
                case measure => simp [intOf]; omega
          · obtain rfl : j = s := by omega
            have HL0 := Lib.hid (Len_any HP.out.net)
            have HE : Hid ((cur back S j).length = 0) := Lib.hid (by unfold cur; cases back <;> simp [HS.out])
            dsimp only at HL0
            rw [HE.out] at HL0
            clear HP HE HS
            go_wp2_with fail
            refine HL0.out.mono ?_
            rintro e we ⟨rfl, rfl⟩
            go_wp2_with fail
            go_returns
            exact ⟨rfl, HB1.out.trans (HB.out.mono HB1.out.size)⟩

theorem opened {H : Type} {enc : TypeId × Value → H} {W : World} {base : Nat} {gs : List (DataW H)} (v0 : Value) (d0 : DataW H) (p0 : List MemPlace) (v1 : Value) (d1 : DataW H) (p1 : List MemPlace)
    (o0 : Value.okWide Try.prog W .any base 31 v0) (t0 : DataW.Trod enc Try.prog W 0 (fun _ => true) true 31 v0 d0 p0)
    (o1 : Value.okWide Try.prog W .any base 4 v1) (t1 : DataW.Trod enc Try.prog W 0 (fun _ => true) true 4 v1 d1 p1)
    (hsz : (DataW.weightsEach Try.prog ([31, 4] ++ []) ([d0, d1] ++ gs)).all (· ≤ reachBytes) = true) :
    Calls Try.prog 6 #[v0, v1] W fun e W' => e = .returned (.bool true) ∧ Below W.heap.size W W' := by
  obtain ⟨a0, len, cap, rfl⟩ := okWide_slice Try.underlying31 o0
  obtain ⟨A, l, cap', e, h1, h2, _, h4⟩ := came_pks (came_of t0 (Base.small_of hsz (j := 0) rfl rfl) (by simp [Value.cells]))
  rw [e]
  obtain ⟨x, rfl, _, _⟩ := open_bool Try.underlying4 o1 t1
  exact walk A l cap' x W h1 h2 h4

theorem contract (H : Type) (enc : TypeId × Value → H) (W : World) (base : Nat) (args : Array Value) (ds gs : List (DataW H)) (before : List MemPlace)
    (hval : ∀ (j : Nat) t v, Try.f6.params[j]? = some t → args[j]? = some v → Value.okWide Try.prog W .any base t v)
    (hW : DataW.Whole enc Try.prog Try.f6.params.toList Rows.netOrderSpec.vars false W args.toList ds gs before)
    (hsz : (DataW.weightsEach Try.prog (Try.f6.params.toList ++ []) (ds ++ gs)).all (· ≤ reachBytes) = true) :
    Calls Try.prog 6 args W fun e W' => ∃ v, e = .returned v ∧ Rows.netOrderSpec.post enc Try.prog Try.f6 false true false false W args v W' := by
  have hW0 := hW
  obtain ⟨p, q, hA0, hV, rfl, _, _⟩ := hW
  have hA : DataW.TrodAll enc Try.prog W 0 (fun _ => true) true Try.f6.params.toList args.toList ds p := hA0
  rw [Try.params6] at hA hval hsz
  obtain ⟨v0, vs0, d0, ds0, p0, q0, hargs, rfl, rfl, h0, r0⟩ := trodAll_cons hA
  obtain ⟨v1, vs1, d1, ds1, p1, q1, rfl, rfl, rfl, h1, r1⟩ := trodAll_cons r0
  obtain ⟨rfl, rfl, rfl⟩ := trodAll_nil r1
  obtain rfl : args = #[v0, v1] := by cases args; simp_all
  refine (opened v0 d0 p0 v1 d1 p1 (hval 0 31 v0 rfl rfl) h0 (hval 1 4 v1 rfl rfl) h1 hsz).mono fun e W' ⟨he, hb⟩ => ⟨_, he, ?_⟩
  exact Base.law_post (tb := 4) Base.laidOut (by kernel_rfl) rfl Try.underlying4 rfl (fun l hl => by
    rw [Try.params6] at hl
    match l, hl with
    | [_, _], _ => rfl) (by rw [Try.params6]; rfl) hW0 hb

theorem laid_met (os : Os) : laidMet Try.prog Rows.netOrderRow.laid ((Base.plainWorld os).forCall (fun _ _ => 0) ⟨#[], #[.slice none 0 0, .bool false], []⟩).memory := laidMet_nil _ _
theorem reads (os : Os) {H : Type} (enc : TypeId × Value → H) : ∃ places, DataW.whole enc Try.prog ((Base.plainWorld os).forCall (fun _ _ => 0) ⟨#[], #[.slice none 0 0, .bool false], []⟩).memory Try.f6.params.toList Rows.netOrderSpec.vars false (#[.slice none 0 0, .bool false] : Array Value).toList 8 = some ([.nil, .lit (.bool false)], [], places) :=
  ⟨[], by kernel_rfl⟩

set_option maxRecDepth 100000 in
theorem lifted (os : Os) (started : os.Started) (H : Type) (enc : TypeId × Value → H) (F : Stop.Interp) :
    ReturnsInHanded {} Try.checked os 6 .any ((OpenSpec.ofChange Rows.netOrderSpec).preRow enc Try.prog Try.f6 Rows.netOrderRow.domain false Rows.netOrderRow.laid) (((OpenSpec.ofChange Rows.netOrderSpec).at F).post enc Try.prog Try.f6 false true false false) := by
  obtain ⟨places, hx⟩ := reads os enc
  refine returnsInHanded_of_row (C := Try.checked) (s := OpenSpec.ofChange Rows.netOrderSpec) Base.own started (by kernel_rfl) Try.func6
    (witness_row_at (enc := enc) (C := Try.checked) false (Base.plainWorld os) #[.slice none 0 0, .bool false] rfl (by kernel_rfl) (by kernel_rfl) (by kernel_rfl)
      (OpenSpec.preRow_of_cond 8 hx (by kernel_rfl) (fun k hk => by cases hk) (by kernel_rfl) (laid_met os))) ?_
  intro W base args ds gs before hval hW _ _ hsz _ _ _
  exact contract H enc W base args ds gs before hval hW hsz

theorem said : Rows.NetOrderSaid :=
  OpenClaim.holds_of_cond 6 Try.f6 rfl rfl rfl rfl rfl rfl rfl ⟨rfl, rfl, rfl, rfl, rfl⟩ rfl rfl rfl rfl rfl (by kernel_rfl) Try.func6 (by kernel_rfl)
    (of_decide_eq_true (by kernel_rfl)) (by unfold Func.isWrapper; rw [if_neg (of_decide_eq_false (by kernel_rfl))]; exact ⟨rfl, rfl⟩)
    (fun os started H enc _ F => by rw [OpenClaim.pre_eq_preRow]; exact lifted os started H enc F)
#print axioms said
end Go.Proofs.Ytfhcfiebhagbeaa.NetOrder
