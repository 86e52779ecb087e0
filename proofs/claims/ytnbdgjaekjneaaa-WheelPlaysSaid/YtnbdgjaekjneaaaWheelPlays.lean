/-
  WheelPlays is proved: whatever is set, stopped and ticked, in any order, a wheel answers and has what the document says. Conditions: none.
-/
import Derived.Test.YtnbdgjaekjneaaaWhlGreat
namespace Go.Proofs.Ytnbdgjaekjneaaa.WheelPlays
set_option maxRecDepth 100000
open Go.ChangeShapes Go.WideShapes Go.ChangeAt Go.RowKit Go.Deep Go.Proofs.Ytnbdgjaekjneaaa.Mem Go.Proofs.Ytnbdgjaekjneaaa.Whl

section
variable {base : Nat} {w1 w w' : World} {cb rb gb : Nat} {vs : List Value} {F : Nat → Prop} {C C' R R' : Wr}
theorem _root_.Go.Proofs.Ytnbdgjaekjneaaa.Whl.Two.clearR (h : Two base w1 w cb rb gb vs F C R) : (∃ v, w.cell? ⟨rb, 1, none⟩ = some v) ∧ w.frozen? ⟨rb, 1, none⟩ = false ∧ Two base w1 (w.setCell ⟨rb, 1, none⟩ (.slice none 0 0)) cb rb gb vs F C ⟨R.now, []⟩ := by
  obtain ⟨A, c, A2, c2, h1, h2, h3, h4⟩ := h.ex
  obtain ⟨p1, p2, p3, p4⟩ := h2.put (w1 := w) (l := []) (A2 := none) (c2 := 0) ⟨by simp, Or.inl ⟨rfl, rfl⟩⟩ (Only.of_below (Below.refl _ _)) (fun k e => by cases e) (Nat.zero_le _)
  have hst : WStep base rb A2 w ⟨R.now, []⟩ (w.setCell ⟨rb, 1, none⟩ (.slice none 0 0)) := ⟨none, 0, p3, p4, fun k e => by cases e⟩
  refine ⟨⟨_, p1⟩, p2, ?_⟩
  have hlow := WxStep.below hst h2 h.big
  have hft : ∀ k, wfoot rb none k → wfoot rb A2 k := by
    rintro k (e | e)
    · exact Or.inl e
    · cases e
  exact ⟨⟨A, c, none, 0, h1.only p4 (fun e2 => h3 cb (Or.inl rfl) e2) fun k hk e2 => h3 k (Or.inr (by rw [own_blk] at hk; exact hk.symm)) e2, p3, fun k e e2 => h3 k e (hft k e2), fun k e => h4 k (e.imp_right (hft k))⟩, cells_only h.box p4 fun e => h4 _ (Or.inr e) h.fgb, h.low.trans hlow, Nat.le_trans h.big p4.size, h.fgb, fun k e => Nat.lt_of_lt_of_le (h.fl k e) p4.size⟩
end
theorem Stop_empty (w : World) (rb : Nat) (L : Option Addr) (cap : Nat) : Calls Try.prog 13 #[.pointer (some ⟨rb, 0, none⟩), .slice L 0 cap] w fun e w' => e = .returned (.int .i64 0) ∧ w = w' := by
  go_enter Try.func13, Try.ntmps13
  go_wp2_with fail
  go_loopw [5, 11] (fun x i wr => i = .int .i64 0 ∧ x = .int .i64 0 ∧ w = wr) (fun _ _ _ => 0)
  case atStart => exact ⟨rfl, rfl, rfl⟩
  case round =>
    obtain ⟨rfl, rfl, rfl⟩ := hrel
    go_wp2_with fail
    go_returns
    exact ⟨rfl, rfl⟩
theorem own_ks {eT : TypeId} {B : Nat} {w : World} {v : Value} {l : List Ky} (h : OwnG eT 6 Ky.vals B w v l) : ∃ V c, v = .slice V l.length c ∧ Ks w V l := by
  obtain ⟨V, c, rfl⟩ := row_slice h
  exact ⟨V, c, rfl, (OwnG.sl fit_ks h).2⟩
def whPl34_neg (cb rb q : Nat) (tn : Int) (sl : List Ky) : Nat → Value → World → Prop
  | 0, v, _ => v = .bool false
  | 1, v, _ => v = .int .i64 (-1)
  | 2, v, _ => v = .bool false
  | 3, v, _ => v = .bool false
  | 4, v, _ => v = .bool false
  | 5, v, _ => v = .int .i64 (-1)
  | 6, v, _ => v = .bool false
  | 7, v, _ => v = .bool false
  | 8, v, _ => v = undef
  | 9, v, _ => v = undef
  | 10, v, _ => v = undef
  | 11, v, _ => v = undef
  | 12, v, _ => v = undef
  | 13, v, _ => v = undef
  | 14, v, _ => v = undef
  | 15, v, _ => v = undef
  | 16, v, _ => v = undef
  | 17, v, _ => v = undef
  | 18, v, _ => v = .bool false
  | 19, v, _ => v = .bool false
  | 20, v, _ => v = .bool false
  | 21, v, _ => v = .int .i64 (-1)
  | 22, v, _ => v = .bool true
  | 23, v, _ => v = .bool true
  | 24, v, _ => v = .int .i64 0
  | 25, v, _ => v = .bool false
  | 26, v, _ => v = .bool false
  | 27, v, _ => v = .bool false
  | 28, v, _ => v = .bool false
  | 29, v, _ => v = .pointer (some ⟨cb, 0, none⟩)
  | 30, v, _ => v = .int .i64 tn
  | 31, v, _ => v = .pointer (some ⟨rb, 0, none⟩)
  | 32, v, _ => v = .pointer (some ⟨rb, 0, none⟩)
  | 33, v, _ => v = .pointer (some ⟨rb, 0, none⟩)
  | 34, v, _ => v = .int .i64 tn
  | 35, v, _ => v = .bool false
  | 36, v, _ => v = .bool false
  | 37, v, _ => v = .bool false
  | 38, v, _ => v = .pointer (some ⟨cb, 0, none⟩)
  | 39, v, w => ∃ V0 c0, v = Value.slice V0 q c0 ∧ Ks w V0 sl
  | 40, v, w => ∃ V0 c0, v = Value.slice V0 q c0 ∧ Ks w V0 sl
  | 41, v, _ => v = .pointer (some ⟨rb, 0, none⟩)
  | 42, v, w => ∃ V0 c0, v = Value.slice V0 q c0 ∧ Ks w V0 sl
  | 43, v, _ => v = .bool true
  | 44, v, _ => v = .bool false
  | 45, v, _ => v = .bool false
  | _, _, _ => True
theorem whPl34_neg_later {cb rb q : Nat} {tn : Int} {sl : List Ky} {j : Nat} {v : Value} {w w' : World} (hb : Below w.heap.size w w') (h : whPl34_neg cb rb q tn sl j v w) : whPl34_neg cb rb q tn sl j v w' := by
  match j, h with
  | 0, h | 1, h | 2, h | 3, h | 4, h | 5, h | 6, h | 7, h | 8, h | 9, h | 10, h | 11, h | 12, h | 13, h | 14, h | 15, h | 16, h | 17, h | 18, h | 19, h | 20, h | 21, h | 22, h | 23, h | 24, h | 25, h | 26, h | 27, h | 28, h | 29, h | 30, h | 31, h | 32, h | 33, h | 34, h | 35, h | 36, h | 37, h | 38, h | 41, h | 43, h | 44, h | 45, h => exact h
  | 39, h =>
    obtain ⟨V0, c0, h1, h2⟩ := h
    exact ⟨V0, c0, h1, h2.later hb⟩
  | 40, h =>
    obtain ⟨V0, c0, h1, h2⟩ := h
    exact ⟨V0, c0, h1, h2.later hb⟩
  | 42, h =>
    obtain ⟨V0, c0, h1, h2⟩ := h
    exact ⟨V0, c0, h1, h2.later hb⟩
  | _ + 46, _ => exact trivial
def whPl34_pos (cb rb q rl g ac i : Nat) (tn due : Int) (sl : List Ky) : Nat → Value → World → Prop
  | 0, v, _ => v = .bool true
  | 1, v, _ => v = .int .i64 (i : Int)
  | 2, v, _ => v = .bool true
  | 3, v, _ => v = .bool false
  | 4, v, _ => v = .bool false
  | 5, v, _ => v = .int .i64 (i : Int)
  | 6, v, _ => v = .bool true
  | 7, v, _ => v = .bool true
  | 8, v, _ => v = .int .i64 due
  | 9, v, _ => v = .pointer (some ⟨rb, 0, none⟩)
  | 10, v, _ => v = .pointer (some ⟨rb, 0, none⟩)
  | 11, v, _ => v = .pointer (some ⟨rb, 1, none⟩)
  | 12, v, _ => v = .slice (some ⟨g, 0, none⟩) rl ac
  | 13, v, _ => v = .int .i64 (i : Int)
  | 14, v, _ => v = .pointer (some ⟨g, i * 7, none⟩)
  | 15, v, _ => v = .pointer (some ⟨g, i * 7 + 6, none⟩)
  | 16, v, _ => v = .int .i64 due
  | 17, v, _ => v = .bool false
  | 18, v, _ => v = .bool false
  | 19, v, _ => v = .bool false
  | 20, v, _ => v = .bool false
  | 21, v, _ => v = .int .i64 (i : Int)
  | 22, v, _ => v = .bool false
  | 23, v, _ => v = .bool false
  | 24, v, _ => v = undef
  | 25, v, _ => v = undef
  | 26, v, _ => v = .bool false
  | 27, v, _ => v = .bool false
  | 28, v, _ => v = .bool false
  | 29, v, _ => v = .pointer (some ⟨cb, 0, none⟩)
  | 30, v, _ => v = .int .i64 tn
  | 31, v, _ => v = .pointer (some ⟨rb, 0, none⟩)
  | 32, v, _ => v = .pointer (some ⟨rb, 0, none⟩)
  | 33, v, _ => v = .pointer (some ⟨rb, 0, none⟩)
  | 34, v, _ => v = .int .i64 tn
  | 35, v, _ => v = .bool false
  | 36, v, _ => v = .bool false
  | 37, v, _ => v = .bool false
  | 38, v, _ => v = .pointer (some ⟨cb, 0, none⟩)
  | 39, v, w => ∃ V0 c0, v = Value.slice V0 q c0 ∧ Ks w V0 sl
  | 40, v, w => ∃ V0 c0, v = Value.slice V0 q c0 ∧ Ks w V0 sl
  | 41, v, _ => v = .pointer (some ⟨rb, 0, none⟩)
  | 42, v, w => ∃ V0 c0, v = Value.slice V0 q c0 ∧ Ks w V0 sl
  | 43, v, _ => v = .bool true
  | 44, v, _ => v = .bool false
  | 45, v, _ => v = .bool false
  | _, _, _ => True
theorem whPl34_pos_later {cb rb q rl g ac i : Nat} {tn due : Int} {sl : List Ky} {j : Nat} {v : Value} {w w' : World} (hb : Below w.heap.size w w') (h : whPl34_pos cb rb q rl g ac i tn due sl j v w) : whPl34_pos cb rb q rl g ac i tn due sl j v w' := by
  match j, h with
  | 0, h | 1, h | 2, h | 3, h | 4, h | 5, h | 6, h | 7, h | 8, h | 9, h | 10, h | 11, h | 12, h | 13, h | 14, h | 15, h | 16, h | 17, h | 18, h | 19, h | 20, h | 21, h | 22, h | 23, h | 24, h | 25, h | 26, h | 27, h | 28, h | 29, h | 30, h | 31, h | 32, h | 33, h | 34, h | 35, h | 36, h | 37, h | 38, h | 41, h | 43, h | 44, h | 45, h => exact h
  | 39, h =>
    obtain ⟨V0, c0, h1, h2⟩ := h
    exact ⟨V0, c0, h1, h2.later hb⟩
  | 40, h =>
    obtain ⟨V0, c0, h1, h2⟩ := h
    exact ⟨V0, c0, h1, h2.later hb⟩
  | 42, h =>
    obtain ⟨V0, c0, h1, h2⟩ := h
    exact ⟨V0, c0, h1, h2.later hb⟩
  | _ + 46, _ => exact trivial
set_option maxHeartbeats 4000000 in
theorem walk (A : Option Addr) (os : List Opk) (cap : Nat) (w : World) (h : Opks w A os) (hl : os.length ≤ 140737488351232) :
    Calls Try.prog 3 #[.slice A os.length cap] w fun e w' => e = .returned (.bool true) ∧ Below w.heap.size w w' := by
  have HC := Lib.hid (awake_any w)
  obtain ⟨n, hn⟩ : ∃ n, os.length = n := ⟨_, rfl⟩
  have HLN := Lib.hid hn
  have HH := Lib.hid h
  have hl0 := hl
  rw [hn] at hl ⊢
  have HGR := Lib.hid (fun (w1 : World) (hb : Below w.heap.size w w1) => great_any A os cap w1 (h.later hb) hl0)
  rw [hn] at HGR
  clear h hn hl0
  go_enter Try.func3, Try.ntmps3
  go_wp2_with fail
  refine HC.out.mono ?_
  rintro e w0 ⟨rfl, hb0⟩
  have HG2 := Lib.hid (HGR.out w0 hb0)
  have HB0 := Lib.hid hb0
  clear hb0 HC HGR
  go_wp2_with fail
  refine HG2.out.mono ?_
  rintro e w1 ⟨rfl, hb1⟩
  have HB1 := Lib.hid (HB0.out.trans (hb1.mono HB0.out.size))
  clear hb1 HB0 HG2
  cases hgr : greatN os with
  | true =>
    clear hgr
    go_wp2_with fail
    go_returns
    exact ⟨rfl, HB1.out⟩
  | false =>
    have HTT : Hid (n ≤ 400 ∧ total os ≤ 400) := Lib.hid (by
      unfold greatN at hgr
      rw [HLN.out] at hgr
      simp at hgr
      exact hgr)
    have HC := Lib.hid (New_any w1)
    clear hgr
    go_wp2_with fail
    refine HC.out.mono ?_
    rintro e wa ⟨rfl, hwa, hba⟩
    obtain ⟨wb, hwb⟩ : ∃ W, W = wa.alloc (.cells #[.int .i64 0, .slice none 0 0] 30) := ⟨_, rfl⟩
    have hbb : Below wa.heap.size wa wb := by rw [hwb]; exact below_alloc _ _
    have hcb : Cells wb wa.heap.size 30 [.int .i64 0, .slice none 0 0] := by rw [hwb]; exact cells_new _ _ _ _ rfl
    have hrw : WrAt w1.heap.size wb wa.heap.size ⟨0, []⟩ none 0 := ⟨hcb, ⟨by simp, Or.inl ⟨rfl, rfl⟩⟩, hba.size, (fun k e => by cases e), Nat.zero_le _⟩
    have HB2 := Lib.hid (hba.trans (hbb.mono hba.size))
    obtain ⟨cb, hcbe⟩ : ∃ cb, w1.heap.size = cb := ⟨_, rfl⟩
    obtain ⟨rb, hrbe⟩ : ∃ rb, wa.heap.size = rb := ⟨_, rfl⟩
    have hcw : WcAt w1.heap.size wb cb ⟨0, []⟩ none 0 := by rw [← hcbe]; exact hwa.later hbb
    have hlt : cb < rb := by rw [← hcbe, ← hrbe]; exact hwa.cel.lt
    rw [hrbe] at hrw
    have HST : Hid (∀ cells : Array Value, Two w1.heap.size w1 (wb.alloc (.cells cells 37)) cb rb wb.heap.size cells.toList (fun j => j = wb.heap.size) ⟨0, []⟩ ⟨0, []⟩) := Lib.hid fun cells => by
      have hal := below_alloc wb (.cells cells 37)
      have hnew := cells_new wb 37 cells.toList cells rfl
      refine ⟨⟨none, 0, none, 0, hcw.later hal, hrw.later hal, fun k e e2 => ?_, fun k e e2 => ?_⟩, hnew, HB2.out.trans (hal.mono HB2.out.size), Nat.le_trans HB2.out.size hal.size, rfl, fun k e => by rw [e]; exact hnew.lt⟩
      · rcases e with e | e
        · rcases e2 with e2 | e2
          · omega
          · cases e2
        · cases e
      · rcases e with e | e
        · have := (hcw.lt e).2; omega
        · have := (hrw.lt e).2; omega
    clear hwa hba hbb hcb hrw hcw hlt HC
    go_upto_region 6 with (fail)
    rw [← hwb]
    clear hwb hcbe hrbe
    go_wp2_with fail
    go_loopw [23] (fun i wr => ∃ (k : Nat) (C R : Wr), k ≤ n ∧ i = .int .i64 (k : Int) ∧ Hid (Whl.Alike C R) ∧ Hid (0 ≤ R.now ∧ R.now ≤ 8 * (k : Int)) ∧ Hid (∀ cells : Array Value, Two w1.heap.size w1 (wr.alloc (.cells cells 37)) cb rb wr.heap.size cells.toList (fun j => j = wr.heap.size) C R) ∧ Hid (Below w1.heap.size w1 wr)) (fun i _ => n - (intOf i).toNat)
    case atStart => exact ⟨0, ⟨0, []⟩, ⟨0, []⟩, Nat.zero_le _, rfl, Lib.hid ⟨rfl, rfl, List.Pairwise.nil, fun t ht => (by cases ht)⟩, Lib.hid ⟨Int.le_refl _, Int.le_refl _⟩, HST, HB2⟩
    case round =>
      clear HST HB2
      obtain ⟨k, C, R, hk, rfl, HAL, HNB, HS, HB⟩ := hrel
      by_cases hkn : k < n
      · have hkl : k < os.length := by rw [HLN.out]; exact hkn
        obtain ⟨g, off, rfl, hr, ho⟩ := (((HH.out.later HB1.out).later HB.out)).at hkl
        have HTK := Lib.hid (total_take os k hkl)
        have HTL := Lib.hid (total_le os (k + 1))
        obtain ⟨o, hoe⟩ : ∃ o, os[k] = o := ⟨_, rfl⟩
        rw [hoe] at hr ho HTK
        have x0 := hr 0 _ rfl
        rw [Nat.add_zero] at x0
        have x1 := hr 1 _ rfl
        have x2 := hr 2 _ rfl
        have x3 := hr 3 _ rfl
        have x4 := hr 4 _ rfl
        have x5 := hr 5 _ rfl
        have x6 := hr 6 _ rfl
        have x7 := hr 7 _ rfl
        have x8 := hr 8 _ rfl
        obtain ⟨we, hwe⟩ : ∃ W, W = wr.alloc (.cells o.vals.toArray 37) := ⟨_, rfl⟩
        obtain ⟨gb, hgb⟩ : ∃ gb, wr.heap.size = gb := ⟨_, rfl⟩
        obtain ⟨F, hF⟩ : ∃ F : Nat → Prop, F = fun j => j = gb := ⟨_, rfl⟩
        have hT := HS.out o.vals.toArray
        rw [← hwe, hgb, ← hF] at hT
        have HIN : Hid (∀ w', Below w1.heap.size w1 w' → o.Ok w') := Lib.hid fun w' hb => by rw [← hoe]; exact (((HH.out.later HB1.out).later hb).2 _ (List.getElem_mem hkl))
        have HFE := Lib.hid hF
        clear hr ho hoe hkl HS HB hF
        obtain ⟨oe, on, ok, oA, oc, ol⟩ := o
        unfold Opk.vals at hwe hT
        dsimp only at x0 x1 x2 x3 x4 x5 x6 x7 x8 hwe HTK hT
        obtain ⟨lq, hlq⟩ : ∃ lq, ol.length = lq := ⟨_, rfl⟩
        have HOL := Lib.hid hlq
        have hlq2 : lq ≤ 400 := by have h2 := HTT.out; have h3 := HTK.out; have h4 := HTL.out; omega
        rw [hlq] at x8 hwe hT
        have y0 := hT.box.cell (j := 0) rfl
        obtain ⟨vs, hvs⟩ : ∃ vs : List Value, vs = [.int .i64 oe, .int .i64 on, .int .i64 ok.kind, .int .i64 ok.cell, .int .i64 ok.node, .int .i64 ok.tn, .int .i64 ok.te, .int .i64 ok.ts, .slice oA lq oc] := ⟨_, rfl⟩
        replace hT : Two w1.heap.size w1 we cb rb gb [.int .i64 oe, .int .i64 on, .int .i64 ok.kind, .int .i64 ok.cell, .int .i64 ok.node, .int .i64 ok.tn, .int .i64 ok.te, .int .i64 ok.ts, .slice oA lq oc] F C R := hT
        rw [← hvs] at hT
        have HV : Hid (vs[1]? = some (.int .i64 on) ∧ vs[2]? = some (.int .i64 ok.kind) ∧ vs[3]? = some (.int .i64 ok.cell) ∧ vs[4]? = some (.int .i64 ok.node) ∧ vs[5]? = some (.int .i64 ok.tn) ∧ vs[6]? = some (.int .i64 ok.te) ∧ vs[7]? = some (.int .i64 ok.ts) ∧ vs[8]? = some (.slice oA lq oc)) := Lib.hid (by rw [hvs]; exact ⟨rfl, rfl, rfl, rfl, rfl, rfl, rfl, rfl⟩)
        have HT := Lib.hid hT
        have HKE := Lib.hid hgb
        clear hlq hT hvs
        replace hwe : we = wr.alloc (.cells #[.int .i64 oe, .int .i64 on, .int .i64 ok.kind, .int .i64 ok.cell, .int .i64 ok.node, .int .i64 ok.tn, .int .i64 ok.te, .int .i64 ok.ts, .slice oA lq oc] 37) := hwe
        go_upto_block 2 with fail
        rw [← hwe]
        clear hwe x0 x1 x2 x3 x4 x5 x6 x7 x8 hgb
        go_cut [7, 9, 10] from 29 to 90 (fun _ _ _ wx => ∃ (C' R' : Wr), Hid (Whl.Alike C' R') ∧ Hid (0 ≤ R'.now ∧ R'.now ≤ 8 * ((k + 1 : Nat) : Int)) ∧ Hid (Two w1.heap.size w1 wx cb rb gb vs F C' R'))
        case first =>
          have hnb := HNB.out
          have hcn0 : C.now = R.now := HAL.out.now
          have HCN0 := Lib.hid hcn0
          have HK400 : Hid ((k : Int) ≤ 400) := Lib.hid (by have := HTT.out; omega)
          clear hcn0 hnb
          by_cases k0 : oe = 0
          · subst k0
            obtain ⟨ha1, ha2⟩ := HAL.out.set ok on
            have hcn : ∀ (wi : World) (R' : Wr), Two w1.heap.size w1 wi cb rb gb vs F C R' → Calls Try.prog 10 #[.pointer (some ⟨cb, 0, none⟩), .agg #[.int .i64 ok.kind, .int .i64 ok.cell, .int .i64 ok.node, .int .i64 ok.tn, .int .i64 ok.te, .int .i64 ok.ts], .int .i64 on] wi fun e w' => e = .returned (.int .i64 (setC C ok on).1) ∧ Two w1.heap.size w1 w' cb rb gb vs F (setC C ok on).2 R' ∧ Only (fun j => ¬ F j) wi w' := fun wi R' h1 =>
              h1.callC (Q := fun e _ => e = .returned (.int .i64 (setC C ok on).1)) fun A c hn => SetC_any hn ok on h1.big HAL.out.asc (by rw [HCN0.out]; exact HNB.out.1) (by rw [HCN0.out]; have := HNB.out.2; have := HK400.out; omega)
            have hcr : ∀ (wi : World) (C' : Wr), Two w1.heap.size w1 wi cb rb gb vs F C' R → Calls Try.prog 11 #[.pointer (some ⟨rb, 0, none⟩), .agg #[.int .i64 ok.kind, .int .i64 ok.cell, .int .i64 ok.node, .int .i64 ok.tn, .int .i64 ok.te, .int .i64 ok.ts], .int .i64 on] wi fun e w' => e = .returned (.int .i64 (setR R ok on).1) ∧ Two w1.heap.size w1 w' cb rb gb vs F C' (setR R ok on).2 ∧ Only (fun j => ¬ F j) wi w' := fun wi C' h1 =>
              h1.callR (Q := fun e _ => e = .returned (.int .i64 (setR R ok on).1)) fun A c hn => RSet_any hn ok on h1.big ⟨HNB.out.1, by have := HNB.out.2; have := HK400.out; omega⟩
            rw [← ha1] at hcr
            have hnw := setR_now R ok on
            obtain ⟨C1, hC1⟩ : ∃ X, (setC C ok on).2 = X := ⟨_, rfl⟩
            obtain ⟨R1, hR1⟩ : ∃ X, (setR R ok on).2 = X := ⟨_, rfl⟩
            obtain ⟨z, hz⟩ : ∃ X, (setC C ok on).1 = X := ⟨_, rfl⟩
            rw [hC1, hz] at hcn
            rw [hR1, hz] at hcr
            rw [hC1, hR1] at ha2
            rw [hR1] at hnw
            have HCN := Lib.hid hcn
            have HCR := Lib.hid hcr
            have HAL2 := Lib.hid ha2
            have HNB2 : Hid (0 ≤ R1.now ∧ R1.now ≤ 8 * ((k + 1 : Nat) : Int)) := Lib.hid (by rw [hnw]; have := HNB.out; omega)
            clear hcn hcr ha1 ha2 hC1 hR1 hz hnw
            go_upto_region 11 with (fail)
            clear y0
            refine Reg.region_inv (by kernel_rfl) (fun i => ([some (.pointer (some ⟨cb, 0, none⟩)), some (.pointer (some ⟨gb, 2, none⟩)), some (.agg #[.int .i64 ok.kind, .int .i64 ok.cell, .int .i64 ok.node, .int .i64 ok.tn, .int .i64 ok.te, .int .i64 ok.ts]), some (.pointer (some ⟨gb, 1, none⟩)), some (.int .i64 on), some (.int .i64 z), some (.pointer (some ⟨rb, 0, none⟩)), some (.pointer (some ⟨gb, 2, none⟩)), some (.agg #[.int .i64 ok.kind, .int .i64 ok.cell, .int .i64 ok.node, .int .i64 ok.tn, .int .i64 ok.te, .int .i64 ok.ts]), some (.pointer (some ⟨gb, 1, none⟩)), some (.int .i64 on), some (.int .i64 z), some (.bool false)] : List (Option Value)).getD i none) (fun D V W => Two w1.heap.size w1 W cb rb gb vs F (cond (D 5) C1 C) (cond (D 11) R1 R)) (fun V => [(some 31, V 0), (some 32, V 1), (some 33, V 2), (some 34, V 3), (some 35, V 4), (some 36, V 5), (some 37, V 6), (some 38, V 7), (some 39, V 8), (some 40, V 9), (some 41, V 10), (some 42, V 11), (some 43, V 12)]) (by kernel_rfl) (by kernel_rfl) (fun V => rfl) ?_ ?_ ?_
            · intro V
              exact HT.out.later (Below.refl _ _).drew
            · intro i o ho
              have hi : i < 13 := (Array.getElem?_eq_some_iff.1 ho).1
              rcases i with _ | _ | _ | _ | _ | _ | _ | _ | _ | _ | _ | _ | _ | i
              rotate_right
              · omega
              all_goals obtain rfl := Option.some.inj ho
              all_goals intro D V ρ wi hE hI hDi hT hF hs hd hk
              · have e3 : ρ (.tmp 3) = .pointer (some ⟨cb, 0, none⟩) := hs 3; clear hT hF hk
                exact Reg.Gives.value (v := .pointer (some ⟨cb, 0, none⟩)) (w' := wi) (by go_simp) ⟨fun x h => Option.some.inj h, hI⟩
              · have e6 : ρ (.tmp 6) = .pointer (some ⟨gb, 0, none⟩) := hs 6; clear hT hF hk
                exact Reg.Gives.value (v := .pointer (some ⟨gb, 2, none⟩)) (w' := wi) (by go_simp) ⟨fun x h => Option.some.inj h, hI⟩
              · have e32 : ρ (.tmp 32) = .pointer (some ⟨gb, 2, none⟩) := (hd 1 32).trans (hk 1 _ rfl); clear hT hF; have q0 := hI.box.cell HV.out.2.1; have q1 := hI.box.cell HV.out.2.2.1; have q2 := hI.box.cell HV.out.2.2.2.1; have q3 := hI.box.cell HV.out.2.2.2.2.1; have q4 := hI.box.cell HV.out.2.2.2.2.2.1; have q5 := hI.box.cell HV.out.2.2.2.2.2.2.1
                exact Reg.Gives.value (v := .agg #[.int .i64 ok.kind, .int .i64 ok.cell, .int .i64 ok.node, .int .i64 ok.tn, .int .i64 ok.te, .int .i64 ok.ts]) (w' := wi) (by go_simp) ⟨fun x h => Option.some.inj h, hI⟩
              · have e6 : ρ (.tmp 6) = .pointer (some ⟨gb, 0, none⟩) := hs 6; clear hT hF hk
                exact Reg.Gives.value (v := .pointer (some ⟨gb, 1, none⟩)) (w' := wi) (by go_simp) ⟨fun x h => Option.some.inj h, hI⟩
              · have e34 : ρ (.tmp 34) = .pointer (some ⟨gb, 1, none⟩) := (hd 3 34).trans (hk 3 _ rfl); clear hT hF; have q0 := hI.box.cell HV.out.1
                exact Reg.Gives.value (v := .int .i64 on) (w' := wi) (by go_simp) ⟨fun x h => Option.some.inj h, hI⟩
              · have e31 : ρ (.tmp 31) = .pointer (some ⟨cb, 0, none⟩) := (hd 0 31).trans (hk 0 _ rfl); have e33 : ρ (.tmp 33) = .agg #[.int .i64 ok.kind, .int .i64 ok.cell, .int .i64 ok.node, .int .i64 ok.tn, .int .i64 ok.te, .int .i64 ok.ts] := (hd 2 33).trans (hk 2 _ rfl); have e35 : ρ (.tmp 35) = .int .i64 on := (hd 4 35).trans (hk 4 _ rfl); have hf := hE.func; have hD5 : D 5 = false := hDi
                clear hT hF
                have h1 : Two w1.heap.size w1 wi cb rb gb vs F C (cond (D 11) R1 R) := by rw [hD5] at hI; exact hI
                refine Reg.Gives.call (f := 10) (args := #[.pointer (some ⟨cb, 0, none⟩), .agg #[.int .i64 ok.kind, .int .i64 ok.cell, .int .i64 ok.node, .int .i64 ok.tn, .int .i64 ok.te, .int .i64 ok.ts], .int .i64 on]) (w' := wi) (by go_simp) ?_
                refine (HCN.out wi _ h1).mono ?_
                rintro e w'' ⟨rfl, hn, _⟩
                exact ⟨_, rfl, fun x h => Option.some.inj h, by show Two w1.heap.size w1 w'' cb rb gb vs F (cond true C1 C) (cond (D 11) R1 R); exact hn⟩
              · have e4 : ρ (.tmp 4) = .pointer (some ⟨rb, 0, none⟩) := hs 4; clear hT hF hk
                exact Reg.Gives.value (v := .pointer (some ⟨rb, 0, none⟩)) (w' := wi) (by go_simp) ⟨fun x h => Option.some.inj h, hI⟩
              · have e6 : ρ (.tmp 6) = .pointer (some ⟨gb, 0, none⟩) := hs 6; clear hT hF hk
                exact Reg.Gives.value (v := .pointer (some ⟨gb, 2, none⟩)) (w' := wi) (by go_simp) ⟨fun x h => Option.some.inj h, hI⟩
              · have e38 : ρ (.tmp 38) = .pointer (some ⟨gb, 2, none⟩) := (hd 7 38).trans (hk 7 _ rfl); clear hT hF; have q0 := hI.box.cell HV.out.2.1; have q1 := hI.box.cell HV.out.2.2.1; have q2 := hI.box.cell HV.out.2.2.2.1; have q3 := hI.box.cell HV.out.2.2.2.2.1; have q4 := hI.box.cell HV.out.2.2.2.2.2.1; have q5 := hI.box.cell HV.out.2.2.2.2.2.2.1
                exact Reg.Gives.value (v := .agg #[.int .i64 ok.kind, .int .i64 ok.cell, .int .i64 ok.node, .int .i64 ok.tn, .int .i64 ok.te, .int .i64 ok.ts]) (w' := wi) (by go_simp) ⟨fun x h => Option.some.inj h, hI⟩
              · have e6 : ρ (.tmp 6) = .pointer (some ⟨gb, 0, none⟩) := hs 6; clear hT hF hk
                exact Reg.Gives.value (v := .pointer (some ⟨gb, 1, none⟩)) (w' := wi) (by go_simp) ⟨fun x h => Option.some.inj h, hI⟩
              · have e40 : ρ (.tmp 40) = .pointer (some ⟨gb, 1, none⟩) := (hd 9 40).trans (hk 9 _ rfl); clear hT hF; have q0 := hI.box.cell HV.out.1
                exact Reg.Gives.value (v := .int .i64 on) (w' := wi) (by go_simp) ⟨fun x h => Option.some.inj h, hI⟩
              · have e37 : ρ (.tmp 37) = .pointer (some ⟨rb, 0, none⟩) := (hd 6 37).trans (hk 6 _ rfl); have e39 : ρ (.tmp 39) = .agg #[.int .i64 ok.kind, .int .i64 ok.cell, .int .i64 ok.node, .int .i64 ok.tn, .int .i64 ok.te, .int .i64 ok.ts] := (hd 8 39).trans (hk 8 _ rfl); have e41 : ρ (.tmp 41) = .int .i64 on := (hd 10 41).trans (hk 10 _ rfl); have hf := hE.func; have hD11 : D 11 = false := hDi
                clear hT hF
                have h1 : Two w1.heap.size w1 wi cb rb gb vs F (cond (D 5) C1 C) R := by rw [hD11] at hI; exact hI
                refine Reg.Gives.call (f := 11) (args := #[.pointer (some ⟨rb, 0, none⟩), .agg #[.int .i64 ok.kind, .int .i64 ok.cell, .int .i64 ok.node, .int .i64 ok.tn, .int .i64 ok.te, .int .i64 ok.ts], .int .i64 on]) (w' := wi) (by go_simp) ?_
                refine (HCR.out wi _ h1).mono ?_
                rintro e w'' ⟨rfl, hn, _⟩
                exact ⟨_, rfl, fun x h => Option.some.inj h, by show Two w1.heap.size w1 w'' cb rb gb vs F (cond (D 5) C1 C) (cond true R1 R); exact hn⟩
              · have e36 : ρ (.tmp 36) = .int .i64 z := (hd 5 36).trans (hk 5 _ rfl); have e42 : ρ (.tmp 42) = .int .i64 z := (hd 11 42).trans (hk 11 _ rfl); clear hT hF
                have y1 : decide (z = z) = true := by simp
                exact Reg.Gives.value (v := .bool false) (w' := wi) (by go_simp) ⟨fun x h => Option.some.inj h, hI⟩
            · intro V wf hk hI
              have hV12 : V 12 = .bool false := hk 12 (by show _ < 13; decide) _ rfl
              simp only [Reg.putsO, List.foldl_cons, List.foldl_nil, Act.put, List.setIfInBounds_toArray, List.set_cons_succ, List.set_cons_zero, hV12]
              replace hI : Two w1.heap.size w1 wf cb rb gb vs F (cond true C1 C) (cond true R1 R) := hI
              clear hk hV12
              have HT2 : Hid (Two w1.heap.size w1 wf cb rb gb vs F C1 R1) := Lib.hid hI
              clear hI
              go_wp2_with fail
              go_meet
              case rel => exact ⟨C1, R1, HAL2, HNB2, HT2⟩
          · by_cases k1 : oe = 1
            · subst k1
              have z8 := HT.out.box.cell HV.out.2.2.2.2.2.2.2
              go_wp2_with fail
              go_loopw [7, 9, 49] (fun x _ i wq => ∃ (j : Nat) (z : Int) (R' : Wr), j ≤ lq ∧ 0 ≤ z ∧ z ≤ j ∧ i = .int .i64 (j : Int) ∧ x = .int .i64 z ∧ Hid (stopN R (ol.take j) = (z, R')) ∧ Hid (Two w1.heap.size w1 wq cb rb gb vs F C R')) (fun _ _ i _ => lq - (intOf i).toNat)
              case atStart => exact ⟨0, 0, R, Nat.zero_le _, Int.le_refl _, Int.le_refl _, rfl, rfl, Lib.hid rfl, HT⟩
              case round =>
                clear z8
                obtain ⟨j, z, R', hjl, hz0, hzj, rfl, rfl, HSN, HT2⟩ := hrel
                by_cases hlt : j < lq
                · have hjk : j < ol.length := by rw [HOL.out]; exact hlt
                  obtain ⟨g2, off2, rfl, hr⟩ := (HIN.out wr HT2.out.low).ks.at hjk
                  obtain ⟨p, hp⟩ : ∃ p, ol[j] = p := ⟨_, rfl⟩
                  dsimp only at hr
                  rw [hp] at hr
                  have x0 := hr 0 _ rfl
                  rw [Nat.add_zero] at x0
                  have x1 := hr 1 _ rfl
                  have x2 := hr 2 _ rfl
                  have x3 := hr 3 _ rfl
                  have x4 := hr 4 _ rfl
                  have x5 := hr 5 _ rfl
                  have HTK2 : Hid (ol.take (j + 1) = ol.take j ++ [p]) := Lib.hid (by rw [List.take_succ_eq_append_getElem hjk, hp])
                  obtain ⟨wv, hwv⟩ : ∃ W, W = wr.alloc (.cells #[.int .i64 p.kind, .int .i64 p.cell, .int .i64 p.node, .int .i64 p.tn, .int .i64 p.te, .int .i64 p.ts] 34) := ⟨_, rfl⟩
                  have hbv : Below wr.heap.size wr wv := by rw [hwv]; exact below_alloc _ _
                  have hcv : Cells wv wr.heap.size 34 p.vals := by rw [hwv]; exact cells_new _ _ _ _ rfl
                  have v0 := hcv.cell (j := 0) rfl
                  have v1 := hcv.cell (j := 1) rfl
                  have v2 := hcv.cell (j := 2) rfl
                  have v3 := hcv.cell (j := 3) rfl
                  have v4 := hcv.cell (j := 4) rfl
                  have v5 := hcv.cell (j := 5) rfl
                  have hTv := HT2.out.later hbv
                  have hS := hTv.callR (R' := (stopR R' p).2) (Q := fun e _ => e = .returned (.bool (stopR R' p).1)) fun A c hn => RStop_any hn p hTv.big
                  have HS := Lib.hid hS
                  unfold Ky.val at HS
                  have HSN2 : Hid (stopN R (ol.take (j + 1)) = (z + (if (stopR R' p).1 then 1 else 0), (stopR R' p).2)) := Lib.hid (by rw [HTK2.out, stopN_more, HSN.out])
                  obtain ⟨⟨bt, R2⟩, hbr⟩ : ∃ X, stopR R' p = X := ⟨_, rfl⟩
                  rw [hbr] at HS HSN2
                  dsimp only at HS HSN2
                  clear hr hp hjk hbv hcv hTv hS hbr
                  go_upto_region 18 with (fail)
                  rw [← hwv]
                  clear hwv x0 x1 x2 x3 x4 x5
                  go_wp2_with fail
                  refine HS.out.mono ?_
                  rintro e ws ⟨rfl, hn3, _⟩
                  have HT3 := Lib.hid hn3
                  clear hn3 HS v0 v1 v2 v3 v4 v5
                  cases bt with
                  | true =>
                    go_wp2_with fail
                    go_roundw
                    case rel => exact ⟨j + 1, z + 1, R2, by omega, by omega, by omega, by go_num, by go_num, HSN2, HT3⟩
                    case measure => simp [intOf]; omega
                  | false =>
                    have HSN3 : Hid (stopN R (ol.take (j + 1)) = (z, R2)) := Lib.hid (by rw [HSN2.out]; simp)
                    go_wp2_with fail
                    go_roundw
                    case rel => exact ⟨j + 1, z, R2, by omega, by omega, by omega, by go_num, rfl, HSN3, HT3⟩
                    case measure => simp [intOf]; omega
                · obtain rfl : j = lq := by omega
                  have HSF : Hid (stopN R ol = (z, R')) := Lib.hid (by
                    have h1 := HSN.out
                    rw [List.take_of_length_le (by rw [HOL.out]; exact Nat.le_refl _)] at h1
                    exact h1)
                  obtain ⟨ha1, ha2⟩ := alike_stopN HAL.out ol
                  rw [HSF.out] at ha1 ha2
                  dsimp only at ha1 ha2
                  have hnw := stopN_now R ol
                  rw [HSF.out] at hnw
                  dsimp only at hnw
                  have HNB2 : Hid (0 ≤ R'.now ∧ R'.now ≤ 8 * ((k + 1 : Nat) : Int)) := Lib.hid (by rw [hnw]; have := HNB.out; omega)
                  have hS : Calls Try.prog 13 #[.pointer (some ⟨cb, 0, none⟩), .slice oA j oc] wr fun e w' => e = .returned (.int .i64 z) ∧ Two w1.heap.size w1 w' cb rb gb vs F (stopN C ol).2 R' := by
                    have hO := HIN.out wr HT2.out.low
                    rw [← ha1]
                    by_cases hj0 : j = 0
                    · have hol0 : ol = [] := List.length_eq_zero_iff.1 (by rw [HOL.out]; exact hj0)
                      subst hj0
                      refine (Stop_empty wr cb oA oc).mono ?_
                      rintro e w' ⟨rfl, rfl⟩
                      rw [hol0]
                      exact ⟨rfl, HT2.out⟩
                    · have h1 := HT2.out.callC (C' := (stopN C ol).2) (Q := fun e _ => e = .returned (.int .i64 (stopN C ol).1)) (f := 13) (args := #[.pointer (some ⟨cb, 0, none⟩), .slice oA ol.length oc]) fun A c hn => by
                        refine (Stop_any hn oA ol oc HT2.out.big hO.ks (fun b hb hf => ?_) (by rw [HOL.out]; omega)).mono ?_
                        · have h2 := (hn.lt hf).1
                          have h3 := (HIN.out w1 (Below.refl _ _)).ks
                          obtain ⟨b3, off3, e3, hr3⟩ := h3.at (show 0 < ol.length by rw [HOL.out]; omega)
                          dsimp only at e3
                          rw [e3] at hb
                          have h4 : b3 = b := Option.some.inj hb
                          have h5 := block_of_cell (hr3 0 _ rfl)
                          dsimp only at h5
                          omega
                        · rintro e w' ⟨rfl, h2, h3⟩
                          exact ⟨rfl, A, c, h2, h3, fun k e => Or.inl e⟩
                      rw [HOL.out] at h1
                      refine h1.mono ?_
                      rintro e w' ⟨rfl, h2, _⟩
                      exact ⟨rfl, h2⟩
                  obtain ⟨C1, hC1⟩ : ∃ X, (stopN C ol).2 = X := ⟨_, rfl⟩
                  rw [hC1] at hS ha2
                  have HS := Lib.hid hS
                  have HAL2 := Lib.hid ha2
                  have z8 := HT2.out.box.cell HV.out.2.2.2.2.2.2.2
                  clear hS ha1 ha2 hnw hC1
                  go_wp2_with fail
                  refine HS.out.mono ?_
                  rintro e ws ⟨rfl, hn3⟩
                  have HT3 := Lib.hid hn3
                  clear hn3 HS z8
                  go_wp2_with fail
                  go_meet
                  case rel => exact ⟨C1, R', HAL2, HNB2, HT3⟩
            · by_cases k2 : oe = 2
              · subst k2
                go_wp2_with fail
                go_loopw [10] (fun x wq => ∃ (j : Nat) (C' R' : Wr), j ≤ 8 ∧ x = .int .i64 (j : Int) ∧ Hid (Whl.Alike C' R') ∧ Hid (0 ≤ R'.now ∧ R'.now ≤ R.now + (j : Int)) ∧ Hid (Two w1.heap.size w1 wq cb rb gb vs F C' R')) (fun x _ => 8 - (intOf x).toNat)
                case atStart => exact ⟨0, C, R, Nat.zero_le _, rfl, HAL, Lib.hid (by have := HNB.out; omega), HT⟩
                case round =>
                  obtain ⟨j, C', R', hj8, rfl, HAL2, HNB2, HT2⟩ := hrel
                  have z1 := HT2.out.box.cell HV.out.1
                  by_cases hjn : (j : Int) < on
                  · by_cases hj : j < 8
                    · obtain ⟨ha1, ha2⟩ := HAL2.out.tick
                      obtain ⟨hb1, hb2⟩ := tickR_now R'
                      obtain ⟨sl, hsl⟩ : ∃ X, (tickR R').1 = X := ⟨_, rfl⟩
                      obtain ⟨q, hq⟩ : ∃ X, sl.length = X := ⟨_, rfl⟩
                      have HTC : Hid (Calls Try.prog 16 #[.pointer (some ⟨cb, 0, none⟩)] wr fun e w' => (∃ V0 c0, e = .returned (.slice V0 q c0) ∧ Ks w' V0 sl ∧ q ≤ 256) ∧ Two w1.heap.size w1 w' cb rb gb vs F (tickC C').2 R' ∧ Only (fun j => ¬ F j) wr w') := Lib.hid (HT2.out.callC (Q := fun e w' => ∃ V0 c0, e = .returned (.slice V0 q c0) ∧ Ks w' V0 sl ∧ q ≤ 256) fun A c hn => by
                        refine (TickC_any hn HT2.out.big HAL2.out.asc (by rw [HAL2.out.now]; exact HNB2.out.1)).mono ?_
                        rintro e w' ⟨v, rfl, h1, h2, h3⟩
                        have hq6 : q ≤ 256 := by
                          rw [← hq, ← hsl, ← ha1]
                          unfold tickC
                          split
                          · exact Nat.zero_le _
                          · dsimp only
                            rw [List.length_map, List.length_take]
                            have := hn.len
                            omega
                        rw [ha1, hsl] at h1
                        obtain ⟨V0, c0, rfl, hk⟩ := own_ks h1
                        rw [hq]
                        exact ⟨⟨V0, c0, rfl, hk, hq6⟩, A, c, h2, h3, fun k e => Or.inl e⟩)
                      have HTR : Hid (∀ (wi : World) (G : Nat → Prop), Two w1.heap.size w1 wi cb rb gb vs G (tickC C').2 R' → Calls Try.prog 17 #[.pointer (some ⟨rb, 0, none⟩)] wi fun e w' => (∃ V0 c0, e = .returned (.slice V0 q c0) ∧ Ks w' V0 sl) ∧ Two w1.heap.size w1 w' cb rb gb vs G (tickC C').2 (tickR R').2 ∧ Only (fun j => ¬ G j) wi w') := Lib.hid fun wi G h1 => h1.callR (Q := fun e w' => ∃ V0 c0, e = .returned (.slice V0 q c0) ∧ Ks w' V0 sl) fun A c hn => by
                        refine (RTick_any hn h1.big HAL2.out.uniq HNB2.out.1).mono ?_
                        rintro e w' ⟨v, rfl, h2, h3⟩
                        rw [hsl] at h2
                        obtain ⟨V0, c0, rfl, hk⟩ := own_ks h2
                        rw [hq]
                        exact ⟨⟨V0, c0, rfl, hk⟩, h3⟩
                      have HPLN : Hid (∀ wi V1 c1, q ≤ 256 → Ks wi V1 sl → Calls Try.prog 15 #[.slice V1 q c1] wi fun e w' => ∃ V0 c0, e = .returned (.slice V0 q c0) ∧ OwnG 41 6 Ky.vals wi.heap.size w' (.slice V0 q c0) sl ∧ Below wi.heap.size wi w') := Lib.hid fun wi V1 c1 hq6 hp => by
                        have h1 := plain_any V1 sl c1 wi hp (by omega)
                        rw [hq] at h1
                        refine h1.mono ?_
                        rintro e w' ⟨v, rfl, hrow, hb'⟩
                        obtain ⟨V0, c0, rfl⟩ := row_slice hrow
                        rw [hq] at hrow ⊢
                        exact ⟨V0, c0, rfl, hrow, hb'⟩
                      have HSM : Hid (∀ wi V1 c1 V2 c2, q ≤ 256 → Ks wi V1 sl → Ks wi V2 sl → Calls Try.prog 14 #[.slice V1 q c1, .slice V2 q c2] wi fun e w' => e = .returned (.bool true) ∧ Below wi.heap.size wi w') := Lib.hid fun wi V1 c1 V2 c2 hq6 hp hp2 => by
                        have h1 := Same_any V1 V2 sl sl c1 c2 wi hp hp2 (by omega) (by omega)
                        rw [hq, decide_eq_true rfl] at h1
                        exact h1
                      obtain ⟨C1, hC1⟩ : ∃ X, (tickC C').2 = X := ⟨_, rfl⟩
                      obtain ⟨R1, hR1⟩ : ∃ X, (tickR R').2 = X := ⟨_, rfl⟩
                      rw [hC1] at HTC HTR ha2
                      rw [hR1] at HTR ha2 hb1 hb2
                      have HAL3 := Lib.hid ha2
                      have HNB3 : Hid (0 ≤ R1.now ∧ R1.now ≤ R.now + ((j + 1 : Nat) : Int)) := Lib.hid (by have := HNB2.out; omega)
                      clear ha1 ha2 hb1 hb2 hsl hq hC1 hR1
                      go_wp2_with fail
                      refine HTC.out.mono ?_
                      rintro e wt ⟨⟨V0, c0, rfl, hk0, hq6⟩, hn3, _⟩
                      have HN3 := Lib.hid hn3
                      have HP2 := Lib.hid (HPLN.out wt V0 c0 hq6 hk0)
                      have HQ6 := Lib.hid hq6
                      clear hk0 hn3 HTC HPLN z1 hq6
                      go_wp2_with fail
                      refine HP2.out.mono ?_
                      rintro e wp ⟨V1, c1, rfl, hrow, hbp⟩
                      have hn4 := HN3.out.add hbp (G := fun j => wt.heap.size ≤ j ∧ j < wp.heap.size) fun j e => e
                      have HTR2 := Lib.hid (HTR.out wp _ hn4)
                      have HROW := Lib.hid hrow
                      clear hn4 hrow hbp HP2 HTR
                      go_wp2_with fail
                      refine HTR2.out.mono ?_
                      rintro e wq ⟨⟨V2, c2, rfl, hk2⟩, hn5, ho5⟩
                      have hrow5 : OwnG 41 6 Ky.vals wt.heap.size wq (.slice V1 q c1) sl := row_only HROW.out ho5 fun b hb e => e (Or.inr (HROW.out.lt b hb))
                      have HS2 := Lib.hid (HSM.out wq V1 c1 V2 c2 HQ6.out (OwnG.sl fit_ks hrow5).2 hk2)
                      have HN5 := Lib.hid (hn5.fewer (G := F) (fun _ e => Or.inl e) HT2.out.fgb)
                      clear hk2 hn5 ho5 hrow5 HTR2 HSM
                      go_wp2_with fail
                      refine HS2.out.mono ?_
                      rintro e wu ⟨rfl, hbu⟩
                      have HT6 := Lib.hid (HN5.out.later hbu)
                      clear hbu HS2
                      go_wp2_with fail
                      go_roundw
                      case rel => exact ⟨j + 1, C1, R1, by omega, by go_num, HAL3, HNB3, HT6⟩
                      case measure => simp [intOf]; omega
                    · obtain rfl : j = 8 := by omega
                      have HNB4 : Hid (0 ≤ R'.now ∧ R'.now ≤ 8 * ((k + 1 : Nat) : Int)) := Lib.hid (by have h1 := HNB2.out; have h2 := HNB.out; omega)
                      go_wp2_with fail
                      go_meet
                      case rel => exact ⟨C', R', HAL2, HNB4, HT2⟩
                  · have HNB4 : Hid (0 ≤ R'.now ∧ R'.now ≤ 8 * ((k + 1 : Nat) : Int)) := Lib.hid (by have h1 := HNB2.out; have h2 := HNB.out; omega)
                    go_wp2_with fail
                    go_meet
                    case rel => exact ⟨C', R', HAL2, HNB4, HT2⟩
              · by_cases k3 : oe = 3
                · subst k3
                  have HC := Lib.hid (HT.out.callC (C' := ⟨C.now, []⟩) (Q := fun e _ => e = .returned (.tuple #[])) (f := 18) (args := #[.pointer (some ⟨cb, 0, none⟩)]) fun A c hn => by
                    refine (Clear_any hn).mono ?_
                    rintro e w' ⟨rfl, h1, h2⟩
                    exact ⟨rfl, none, 0, h1, h2, fun k e => by cases e⟩)
                  have HAL2 := Lib.hid HAL.out.clear
                  have HNB2 : Hid (0 ≤ (⟨R.now, []⟩ : Wr).now ∧ (⟨R.now, []⟩ : Wr).now ≤ 8 * ((k + 1 : Nat) : Int)) := Lib.hid (by have := HNB.out; dsimp only; omega)
                  obtain ⟨C1, hC1⟩ : ∃ X, (⟨C.now, []⟩ : Wr) = X := ⟨_, rfl⟩
                  rw [hC1] at HC HAL2
                  clear hC1
                  go_wp2_with fail
                  refine HC.out.mono ?_
                  rintro e wx ⟨rfl, hn, _⟩
                  obtain ⟨⟨v0, hv0⟩, hf0, hn2⟩ := hn.clearR
                  have HT2 := Lib.hid hn2
                  clear hn hn2 HC y0
                  go_wp2_with fail
                  go_meet
                  case rel => exact ⟨C1, _, HAL2, HNB2, HT2⟩
                · have HNB2 : Hid (0 ≤ R.now ∧ R.now ≤ 8 * ((k + 1 : Nat) : Int)) := Lib.hid (by have := HNB.out; omega)
                  go_wp2_with fail
                  go_meet
                  case rel => exact ⟨C, R, HAL, HNB2, HT⟩
        case rest =>
          obtain ⟨C', R', HAL2, HNB2, HT2⟩ := hcut
          obtain ⟨A4, c4, A5, c5, hc4, hr5, _, _⟩ := HT2.out.ex
          have y2 := HT2.out.box.cell HV.out.2.1
          have y3 := HT2.out.box.cell HV.out.2.2.1
          have y4 := HT2.out.box.cell HV.out.2.2.2.1
          have y5 := HT2.out.box.cell HV.out.2.2.2.2.1
          have y6 := HT2.out.box.cell HV.out.2.2.2.2.2.1
          have y7 := HT2.out.box.cell HV.out.2.2.2.2.2.2.1
          obtain ⟨w5, hw5⟩ : ∃ W, W = wc := ⟨_, rfl⟩
          subst hw5
          have HD := Lib.hid (Due_any hc4 ok)
          rw [show ok.val = .agg #[.int .i64 ok.kind, .int .i64 ok.cell, .int .i64 ok.node, .int .i64 ok.tn, .int .i64 ok.te, .int .i64 ok.ts] from rfl] at HD
          have HC4 := Lib.hid hc4
          have HR5 := Lib.hid hr5
          have HAT : Hid (∀ wi, Below w5.heap.size w5 wi → Calls Try.prog 20 #[.pointer (some ⟨rb, 0, none⟩), .agg #[.int .i64 ok.kind, .int .i64 ok.cell, .int .i64 ok.node, .int .i64 ok.tn, .int .i64 ok.te, .int .i64 ok.ts]] wi fun e w' => e = .returned (.int .i64 (atL ok R'.l 0)) ∧ Below wi.heap.size wi w') := Lib.hid fun wi hb => RAt_any (HR5.out.later hb) ok
          clear hc4 hr5
          obtain ⟨sl, hsl⟩ : ∃ X, C'.l.map (·.1) = X := ⟨_, rfl⟩
          obtain ⟨q, hq⟩ : ∃ X, sl.length = X := ⟨_, rfl⟩
          have hsl2 : (sortD R'.l).map (·.1) = sl := by rw [← hsl, HAL2.out.l]
          have hq5 : q ≤ 256 := by rw [← hq, ← hsl, List.length_map]; exact HC4.out.len
          obtain ⟨tn, htn⟩ : ∃ X, R'.now = X := ⟨_, rfl⟩
          have HNOW0 : Hid (∀ wi, Below w5.heap.size w5 wi → Calls Try.prog 21 #[.pointer (some ⟨cb, 0, none⟩)] wi fun e w' => e = .returned (.int .i64 tn) ∧ w' = wi) := Lib.hid fun wi hb => by
            have h1 := Now_any (HC4.out.later hb)
            rw [HAL2.out.now, htn] at h1
            exact h1
          have HALL0 : Hid (∀ wi, Below w5.heap.size w5 wi → Calls Try.prog 22 #[.pointer (some ⟨cb, 0, none⟩)] wi fun e w' => ∃ V0 c0, e = .returned (.slice V0 q c0) ∧ Ks w' V0 sl ∧ Below wi.heap.size wi w') := Lib.hid fun wi hb => by
            refine (Keys_any (HC4.out.later hb)).mono ?_
            rintro e w' ⟨v, rfl, hrow, hb'⟩
            rw [hsl] at hrow
            obtain ⟨V0, c0, rfl, hk⟩ := own_ks hrow
            rw [hq]
            exact ⟨V0, c0, rfl, hk, hb'⟩
          have HPLN : Hid (∀ wi V1 c1, Ks wi V1 sl → Calls Try.prog 15 #[.slice V1 q c1] wi fun e w' => ∃ V0 c0, e = .returned (.slice V0 q c0) ∧ Ks w' V0 sl ∧ Below wi.heap.size wi w') := Lib.hid fun wi V1 c1 hp => by
            have h1 := plain_any V1 sl c1 wi hp (by omega)
            rw [hq] at h1
            refine h1.mono ?_
            rintro e w' ⟨v, rfl, hrow, hb'⟩
            obtain ⟨V0, c0, rfl, hk⟩ := own_ks hrow
            rw [hq]
            exact ⟨V0, c0, rfl, hk, hb'⟩
          have HRK0 : Hid (∀ wi, Below w5.heap.size w5 wi → Calls Try.prog 23 #[.pointer (some ⟨rb, 0, none⟩)] wi fun e w' => ∃ V0 c0, e = .returned (.slice V0 q c0) ∧ Ks w' V0 sl ∧ Below wi.heap.size wi w') := Lib.hid fun wi hb => by
            refine (RKeys_any (HR5.out.later hb)).mono ?_
            rintro e w' ⟨v, rfl, hrow, hb'⟩
            rw [hsl2] at hrow
            obtain ⟨V0, c0, rfl, hk⟩ := own_ks hrow
            rw [hq]
            exact ⟨V0, c0, rfl, hk, hb'⟩
          have HSM : Hid (∀ wi V1 c1 V2 c2, Ks wi V1 sl → Ks wi V2 sl → Calls Try.prog 14 #[.slice V1 q c1, .slice V2 q c2] wi fun e w' => e = .returned (.bool true) ∧ Below wi.heap.size wi w') := Lib.hid fun wi V1 c1 V2 c2 hp hp2 => by
            have h1 := Same_any V1 V2 sl sl c1 c2 wi hp hp2 (by omega) (by omega)
            rw [hq, decide_eq_true rfl] at h1
            exact h1
          have HR00 : Hid (∀ wi, Below w5.heap.size w5 wi → wi.cell? ⟨rb, 0, none⟩ = some (.int .i64 tn)) := Lib.hid fun wi hb => by
            have h1 := (HR5.out.later hb).cel.cell (j := 0) rfl
            rw [htn] at h1
            exact h1
          clear hsl hq hsl2 hq5 htn
          rcases atL_spec' ok R'.l 0 with ⟨hat, _⟩ | ⟨i, hi, hat, _, _⟩
          · have hdu := (HAL2.out.dueL ok).1 (by rw [hat]; decide)
            rw [hdu] at HD
            rw [hat] at HAT
            clear hdu hat
            go_wp2_with fail
            refine HD.out.mono ?_
            rintro e wd ⟨rfl, hbd⟩
            have hTd := HT2.out.later hbd
            have z2 := hTd.box.cell HV.out.2.1
            have z3 := hTd.box.cell HV.out.2.2.1
            have z4 := hTd.box.cell HV.out.2.2.2.1
            have z5 := hTd.box.cell HV.out.2.2.2.2.1
            have z6 := hTd.box.cell HV.out.2.2.2.2.2.1
            have z7 := hTd.box.cell HV.out.2.2.2.2.2.2.1
            have HAT2 := Lib.hid (HAT.out wd hbd)
            have HBD := Lib.hid hbd
            clear hbd hTd HD y2 y3 y4 y5 y6 y7
            go_wp2_with fail
            refine HAT2.out.mono ?_
            rintro e we ⟨rfl, hbe⟩
            have HBE := Lib.hid (HBD.out.trans (hbe.mono HBD.out.size))
            have HTE := Lib.hid (HT2.out.later HBE.out)
            have HNOW : Hid (∀ wi, Below we.heap.size we wi → Calls Try.prog 21 #[.pointer (some ⟨cb, 0, none⟩)] wi fun e w' => e = .returned (.int .i64 tn) ∧ w' = wi) := Lib.hid fun wi hb => HNOW0.out wi (HBE.out.trans (hb.mono HBE.out.size))
            have HALL : Hid (∀ wi, Below we.heap.size we wi → Calls Try.prog 22 #[.pointer (some ⟨cb, 0, none⟩)] wi fun e w' => ∃ V0 c0, e = .returned (.slice V0 q c0) ∧ Ks w' V0 sl ∧ Below wi.heap.size wi w') := Lib.hid fun wi hb => HALL0.out wi (HBE.out.trans (hb.mono HBE.out.size))
            have HRK : Hid (∀ wi, Below we.heap.size we wi → Calls Try.prog 23 #[.pointer (some ⟨rb, 0, none⟩)] wi fun e w' => ∃ V0 c0, e = .returned (.slice V0 q c0) ∧ Ks w' V0 sl ∧ Below wi.heap.size wi w') := Lib.hid fun wi hb => HRK0.out wi (HBE.out.trans (hb.mono HBE.out.size))
            have HR0 : Hid (∀ wi, Below we.heap.size we wi → wi.cell? ⟨rb, 0, none⟩ = some (.int .i64 tn)) := Lib.hid fun wi hb => HR00.out wi (HBE.out.trans (hb.mono HBE.out.size))
            clear hbe HAT HAT2 HBD HNOW0 HALL0 HRK0 HR00 z2 z3 z4 z5 z6 z7
            go_upto_region 34 with (fail)
            refine Reg.region_heavy (by kernel_rfl) 45 [45] (whPl34_neg cb rb q tn sl) (fun a => Below we.heap.size we a) (fun a => Below we.heap.size we a) (fun V => [(some 102, V 0), (some 103, V 1), (some 104, V 2), (some 105, V 3), (some 106, V 4), (some 107, V 5), (some 108, V 6), (some 109, V 7), (some 110, V 8), (some 111, V 9), (some 112, V 10), (some 113, V 11), (some 114, V 12), (some 115, V 13), (some 116, V 14), (some 117, V 15), (some 118, V 16), (some 119, V 17), (some 120, V 18), (some 121, V 19), (some 122, V 20), (some 123, V 21), (some 124, V 22), (some 125, V 23), (some 126, V 24), (some 127, V 25), (some 128, V 26), (some 129, V 27), (some 130, V 28), (some 131, V 29), (some 132, V 30), (some 133, V 31), (some 134, V 32), (some 135, V 33), (some 136, V 34), (some 137, V 35), (some 138, V 36), (some 139, V 37), (some 140, V 38), (some 141, V 39), (some 142, V 40), (some 143, V 41), (some 144, V 42), (some 145, V 43), (some 146, V 44), (some 147, V 45)]) (by kernel_rfl) (by kernel_rfl) (by kernel_rfl) (fun V => rfl) ?_ ?_ ?_
            · exact (Below.refl _ _).drew
            · intro i o ho
              have hi : i < 46 := (Array.getElem?_eq_some_iff.1 ho).1
              rcases i with _ | _ | _ | _ | _ | _ | _ | _ | _ | _ | _ | _ | _ | _ | _ | _ | _ | _ | _ | _ | _ | _ | _ | _ | _ | _ | _ | _ | _ | _ | _ | _ | _ | _ | _ | _ | _ | _ | _ | _ | _ | _ | _ | _ | _ | _ | i
              rotate_right
              · omega
              all_goals obtain rfl := Option.some.inj ho
              all_goals intro ρ wi hE hI hs hd
              all_goals try dsimp only at hI
              · have e12 : ρ (.tmp 12) = .bool false := hs 12; exact Reg.gw hI
              · have e13 : ρ (.tmp 13) = .int .i64 (-1) := hs 13; exact Reg.gw hI
              · obtain ⟨_, rfl, e103⟩ := hd 1 103; have hc := hE.const; exact Reg.gw hI
              · obtain ⟨_, rfl, e102⟩ := hd 0 102; obtain ⟨_, rfl, e104⟩ := hd 2 104; exact Reg.gw hI
              · obtain ⟨_, rfl, e105⟩ := hd 3 105; exact Reg.gw hI
              · have e13 : ρ (.tmp 13) = .int .i64 (-1) := hs 13
                refine Reg.yes ?_
                exact Reg.gw hI
              · obtain ⟨_, rfl, e107⟩ := hd 5 107; have hc := hE.const
                refine Reg.yes ?_
                exact Reg.gw hI
              · obtain ⟨_, rfl, e108⟩ := hd 6 108
                refine Reg.yes ?_
                exact Reg.gw hI
              · exact Reg.no hI
              · exact Reg.no hI
              · exact Reg.no hI
              · exact Reg.no hI
              · exact Reg.no hI
              · exact Reg.no hI
              · exact Reg.no hI
              · exact Reg.no hI
              · exact Reg.no hI
              · exact Reg.no hI
              · obtain ⟨_, rfl, e109⟩ := hd 7 109; obtain ⟨_, rfl, e119⟩ := hd 17 119; have hc := hE.const
                refine Reg.yes ?_
                exact Reg.gw hI
              · obtain ⟨_, rfl, e106⟩ := hd 4 106; obtain ⟨_, rfl, e120⟩ := hd 18 120; have hc := hE.const; exact Reg.gw hI
              · obtain ⟨_, rfl, e121⟩ := hd 19 121; exact Reg.gw hI
              · have e13 : ρ (.tmp 13) = .int .i64 (-1) := hs 13
                refine Reg.yes ?_
                exact Reg.gw hI
              · obtain ⟨_, rfl, e123⟩ := hd 21 123; have hc := hE.const
                refine Reg.yes ?_
                exact Reg.gw hI
              · obtain ⟨_, rfl, e124⟩ := hd 22 124
                refine Reg.yes ?_
                exact Reg.gw hI
              · have e11 : ρ (.tmp 11) = .int .i64 0 := hs 11
                refine Reg.yes ?_
                exact Reg.gw hI
              · obtain ⟨_, rfl, e126⟩ := hd 24 126; have hc := hE.const
                refine Reg.yes ?_
                exact Reg.gw hI
              · obtain ⟨_, rfl, e125⟩ := hd 23 125; obtain ⟨_, rfl, e127⟩ := hd 25 127; have hc := hE.const
                refine Reg.yes ?_
                exact Reg.gw hI
              · obtain ⟨_, rfl, e122⟩ := hd 20 122; obtain ⟨_, rfl, e128⟩ := hd 26 128; have hc := hE.const; exact Reg.gw hI
              · obtain ⟨_, rfl, e129⟩ := hd 27 129; exact Reg.gw hI
              · have e3 : ρ (.tmp 3) = .pointer (some ⟨cb, 0, none⟩) := hs 3
                refine Reg.yes ?_
                exact Reg.gw hI
              · obtain ⟨_, rfl, e131⟩ := hd 29 131; have hf := hE.func
                refine Reg.yes ?_
                refine Reg.Gives.call (f := 21) (args := #[.pointer (some ⟨cb, 0, none⟩)]) (w' := wi) (by go_simp) ?_
                refine (HNOW.out wi hI).mono ?_
                rintro e w'' ⟨rfl, rfl⟩
                exact ⟨_, rfl, Reg.OwedH.same hI rfl⟩
              · have e4 : ρ (.tmp 4) = .pointer (some ⟨rb, 0, none⟩) := hs 4
                refine Reg.yes ?_
                exact Reg.gw hI
              · obtain ⟨_, rfl, e133⟩ := hd 31 133
                refine Reg.yes ?_
                exact Reg.gw hI
              · obtain ⟨_, rfl, e134⟩ := hd 32 134
                refine Reg.yes ?_
                exact Reg.gw hI
              · obtain ⟨_, rfl, e135⟩ := hd 33 135
                refine Reg.yes ?_
                have x0 := HR0.out _ hI; exact Reg.gw hI
              · obtain ⟨_, rfl, e132⟩ := hd 30 132; obtain ⟨_, rfl, e136⟩ := hd 34 136
                refine Reg.yes ?_
                have y1 : decide (tn = tn) = true := by simp
                exact Reg.gw hI
              · obtain ⟨_, rfl, e130⟩ := hd 28 130; obtain ⟨_, rfl, e137⟩ := hd 35 137; have hc := hE.const; exact Reg.gw hI
              · obtain ⟨_, rfl, e138⟩ := hd 36 138; exact Reg.gw hI
              · have e3 : ρ (.tmp 3) = .pointer (some ⟨cb, 0, none⟩) := hs 3
                refine Reg.yes ?_
                exact Reg.gw hI
              · obtain ⟨_, rfl, e140⟩ := hd 38 140; have hf := hE.func
                refine Reg.yes ?_
                refine Reg.Gives.call (f := 22) (args := #[.pointer (some ⟨cb, 0, none⟩)]) (w' := wi) (by go_simp) ?_
                refine (HALL.out wi hI).mono ?_
                rintro e w'' ⟨V0, c0, rfl, hp, hb⟩
                exact ⟨_, rfl, ⟨⟨V0, c0, rfl, hp⟩, hI.trans (hb.mono hI.size), fun j u _ _ h => whPl34_neg_later hb h⟩⟩
              · obtain ⟨u141, g141, e141⟩ := hd 39 141; have hf := hE.func
                refine Reg.yes ?_
                obtain ⟨V1, c1, rfl, hp1⟩ := g141
                refine Reg.Gives.call (f := 15) (args := #[.slice V1 q c1]) (w' := wi) (by go_simp) ?_
                refine (HPLN.out wi V1 c1 hp1).mono ?_
                rintro e w'' ⟨V0, c0, rfl, hp, hb⟩
                exact ⟨_, rfl, ⟨⟨V0, c0, rfl, hp⟩, hI.trans (hb.mono hI.size), fun j u _ _ h => whPl34_neg_later hb h⟩⟩
              · have e4 : ρ (.tmp 4) = .pointer (some ⟨rb, 0, none⟩) := hs 4
                refine Reg.yes ?_
                exact Reg.gw hI
              · obtain ⟨_, rfl, e143⟩ := hd 41 143; have hf := hE.func
                refine Reg.yes ?_
                refine Reg.Gives.call (f := 23) (args := #[.pointer (some ⟨rb, 0, none⟩)]) (w' := wi) (by go_simp) ?_
                refine (HRK.out wi hI).mono ?_
                rintro e w'' ⟨V0, c0, rfl, hp, hb⟩
                exact ⟨_, rfl, ⟨⟨V0, c0, rfl, hp⟩, hI.trans (hb.mono hI.size), fun j u _ _ h => whPl34_neg_later hb h⟩⟩
              · obtain ⟨u142, g142, e142⟩ := hd 40 142; obtain ⟨u144, g144, e144⟩ := hd 42 144; have hf := hE.func
                refine Reg.yes ?_
                obtain ⟨V1, c1, rfl, hp1⟩ := g142; obtain ⟨V2, c2, rfl, hp2⟩ := g144
                refine Reg.Gives.call (f := 14) (args := #[.slice V1 q c1, .slice V2 q c2]) (w' := wi) (by go_simp) ?_
                refine (HSM.out wi V1 c1 V2 c2 hp1 hp2).mono ?_
                rintro e w'' ⟨rfl, hb⟩
                exact ⟨_, rfl, ⟨rfl, hI.trans (hb.mono hI.size), fun j u _ _ h => whPl34_neg_later hb h⟩⟩
              · obtain ⟨_, rfl, e145⟩ := hd 43 145
                refine Reg.yes ?_
                exact Reg.gw hI
              · obtain ⟨_, rfl, e139⟩ := hd 37 139; obtain ⟨_, rfl, e146⟩ := hd 44 146; have hc := hE.const; exact Reg.gw hI
            · intro V wf hV hI
              have hV45 : V 45 = .bool false := hV 45 (by decide) rfl
              simp only [Reg.putsO, List.foldl_cons, List.foldl_nil, Act.put, List.setIfInBounds_toArray, List.set_cons_succ, List.set_cons_zero, hV45]
              replace hI : (fun a => Below we.heap.size we a) wf := hI
              clear hV hV45
              have hT := HTE.out.later hI
              have HNX : Hid (∀ cells : Array Value, Two w1.heap.size w1 (wf.alloc (.cells cells 37)) cb rb wf.heap.size cells.toList (fun j => j = wf.heap.size) C' R') := Lib.hid fun cells => hT.next cells rfl
              have HBX := Lib.hid hT.low
              clear hI hT HNOW HALL HPLN HRK HSM HR0
              go_wp2_with fail
              go_roundw
              case rel => exact ⟨k + 1, C', R', by omega, by go_num, HAL2, HNB2, HNX, HBX⟩
              case measure => simp [intOf]; omega
          · rw [Nat.zero_add] at hat
            obtain ⟨⟨t0, due⟩, ht⟩ : ∃ t, R'.l[i]? = some t := ⟨_, List.getElem?_eq_getElem hi⟩
            have hdu := (HAL2.out.dueL ok).2 i _ hat ht
            rw [hdu] at HD
            rw [hat] at HAT
            dsimp only at HD
            obtain ⟨g, rfl, hrg⟩ := HR5.out.at ht
            obtain ⟨rl, hrl⟩ : ∃ rl, R'.l.length = rl := ⟨_, rfl⟩
            have HRL := Lib.hid hrl
            have HTT0 : Hid (∀ wi, Below w5.heap.size w5 wi → wi.cell? ⟨g, i * 7 + 6, none⟩ = some (.int .i64 due)) := Lib.hid fun wi hb => range_later hrg hb 6 _ rfl
            have HR10 : Hid (∀ wi, Below w5.heap.size w5 wi → wi.cell? ⟨rb, 1, none⟩ = some (.slice (some ⟨g, 0, none⟩) rl c5)) := Lib.hid fun wi hb => by
              have h1 := (HR5.out.later hb).cel.cell (j := 1) rfl
              rw [HRL.out] at h1
              exact h1
            have HI : Hid (i < rl) := Lib.hid (by rw [← HRL.out]; exact hi)
            have hi31 : rl ≤ 256 := by rw [← hrl]; exact HR5.out.len
            have hi32 : i ≤ 256 := by have := HI.out; omega
            clear hdu hat ht hrg hrl hi31
            go_wp2_with fail
            refine HD.out.mono ?_
            rintro e wd ⟨rfl, hbd⟩
            have hTd := HT2.out.later hbd
            have z2 := hTd.box.cell HV.out.2.1
            have z3 := hTd.box.cell HV.out.2.2.1
            have z4 := hTd.box.cell HV.out.2.2.2.1
            have z5 := hTd.box.cell HV.out.2.2.2.2.1
            have z6 := hTd.box.cell HV.out.2.2.2.2.2.1
            have z7 := hTd.box.cell HV.out.2.2.2.2.2.2.1
            have HAT2 := Lib.hid (HAT.out wd hbd)
            have HBD := Lib.hid hbd
            clear hbd hTd HD y2 y3 y4 y5 y6 y7
            go_wp2_with fail
            refine HAT2.out.mono ?_
            rintro e we ⟨rfl, hbe⟩
            have HBE := Lib.hid (HBD.out.trans (hbe.mono HBD.out.size))
            have HTE := Lib.hid (HT2.out.later HBE.out)
            have HNOW : Hid (∀ wi, Below we.heap.size we wi → Calls Try.prog 21 #[.pointer (some ⟨cb, 0, none⟩)] wi fun e w' => e = .returned (.int .i64 tn) ∧ w' = wi) := Lib.hid fun wi hb => HNOW0.out wi (HBE.out.trans (hb.mono HBE.out.size))
            have HALL : Hid (∀ wi, Below we.heap.size we wi → Calls Try.prog 22 #[.pointer (some ⟨cb, 0, none⟩)] wi fun e w' => ∃ V0 c0, e = .returned (.slice V0 q c0) ∧ Ks w' V0 sl ∧ Below wi.heap.size wi w') := Lib.hid fun wi hb => HALL0.out wi (HBE.out.trans (hb.mono HBE.out.size))
            have HRK : Hid (∀ wi, Below we.heap.size we wi → Calls Try.prog 23 #[.pointer (some ⟨rb, 0, none⟩)] wi fun e w' => ∃ V0 c0, e = .returned (.slice V0 q c0) ∧ Ks w' V0 sl ∧ Below wi.heap.size wi w') := Lib.hid fun wi hb => HRK0.out wi (HBE.out.trans (hb.mono HBE.out.size))
            have HR0 : Hid (∀ wi, Below we.heap.size we wi → wi.cell? ⟨rb, 0, none⟩ = some (.int .i64 tn)) := Lib.hid fun wi hb => HR00.out wi (HBE.out.trans (hb.mono HBE.out.size))
            have HT0 : Hid (∀ wi, Below we.heap.size we wi → wi.cell? ⟨g, i * 7 + 6, none⟩ = some (.int .i64 due)) := Lib.hid fun wi hb => HTT0.out wi (HBE.out.trans (hb.mono HBE.out.size))
            have HR1 : Hid (∀ wi, Below we.heap.size we wi → wi.cell? ⟨rb, 1, none⟩ = some (.slice (some ⟨g, 0, none⟩) rl c5)) := Lib.hid fun wi hb => HR10.out wi (HBE.out.trans (hb.mono HBE.out.size))
            clear HTT0 HR10
            clear hbe HAT HAT2 HBD HNOW0 HALL0 HRK0 HR00 z2 z3 z4 z5 z6 z7
            go_upto_region 34 with (fail)
            refine Reg.region_heavy (by kernel_rfl) 45 [45] (whPl34_pos cb rb q rl g c5 i tn due sl) (fun a => Below we.heap.size we a) (fun a => Below we.heap.size we a) (fun V => [(some 102, V 0), (some 103, V 1), (some 104, V 2), (some 105, V 3), (some 106, V 4), (some 107, V 5), (some 108, V 6), (some 109, V 7), (some 110, V 8), (some 111, V 9), (some 112, V 10), (some 113, V 11), (some 114, V 12), (some 115, V 13), (some 116, V 14), (some 117, V 15), (some 118, V 16), (some 119, V 17), (some 120, V 18), (some 121, V 19), (some 122, V 20), (some 123, V 21), (some 124, V 22), (some 125, V 23), (some 126, V 24), (some 127, V 25), (some 128, V 26), (some 129, V 27), (some 130, V 28), (some 131, V 29), (some 132, V 30), (some 133, V 31), (some 134, V 32), (some 135, V 33), (some 136, V 34), (some 137, V 35), (some 138, V 36), (some 139, V 37), (some 140, V 38), (some 141, V 39), (some 142, V 40), (some 143, V 41), (some 144, V 42), (some 145, V 43), (some 146, V 44), (some 147, V 45)]) (by kernel_rfl) (by kernel_rfl) (by kernel_rfl) (fun V => rfl) ?_ ?_ ?_
            · exact (Below.refl _ _).drew
            · intro i o ho
              have hi : i < 46 := (Array.getElem?_eq_some_iff.1 ho).1
              rcases i with _ | _ | _ | _ | _ | _ | _ | _ | _ | _ | _ | _ | _ | _ | _ | _ | _ | _ | _ | _ | _ | _ | _ | _ | _ | _ | _ | _ | _ | _ | _ | _ | _ | _ | _ | _ | _ | _ | _ | _ | _ | _ | _ | _ | _ | _ | i
              rotate_right
              · omega
              all_goals obtain rfl := Option.some.inj ho
              all_goals intro ρ wi hE hI hs hd
              all_goals try dsimp only at hI
              · have e12 : ρ (.tmp 12) = .bool true := hs 12; exact Reg.gw hI
              · have e13 : ρ (.tmp 13) = .int .i64 (i : Int) := hs 13; exact Reg.gw hI
              · obtain ⟨_, rfl, e103⟩ := hd 1 103; have hc := hE.const
                have y1 : (0 : Int) ≤ (i : Int) := by omega
                exact Reg.gw hI
              · obtain ⟨_, rfl, e102⟩ := hd 0 102; obtain ⟨_, rfl, e104⟩ := hd 2 104; exact Reg.gw hI
              · obtain ⟨_, rfl, e105⟩ := hd 3 105; exact Reg.gw hI
              · have e13 : ρ (.tmp 13) = .int .i64 (i : Int) := hs 13
                refine Reg.yes ?_
                exact Reg.gw hI
              · obtain ⟨_, rfl, e107⟩ := hd 5 107; have hc := hE.const
                refine Reg.yes ?_
                have y1 : (0 : Int) ≤ (i : Int) := by omega
                exact Reg.gw hI
              · obtain ⟨_, rfl, e108⟩ := hd 6 108
                refine Reg.yes ?_
                exact Reg.gw hI
              · have e11 : ρ (.tmp 11) = .int .i64 due := hs 11
                refine Reg.yes ?_
                exact Reg.gw hI
              · have e4 : ρ (.tmp 4) = .pointer (some ⟨rb, 0, none⟩) := hs 4
                refine Reg.yes ?_
                exact Reg.gw hI
              · obtain ⟨_, rfl, e111⟩ := hd 9 111
                refine Reg.yes ?_
                exact Reg.gw hI
              · obtain ⟨_, rfl, e112⟩ := hd 10 112
                refine Reg.yes ?_
                exact Reg.gw hI
              · obtain ⟨_, rfl, e113⟩ := hd 11 113
                refine Reg.yes ?_
                have x0 := HR1.out _ hI; exact Reg.gw hI
              · have e13 : ρ (.tmp 13) = .int .i64 (i : Int) := hs 13
                refine Reg.yes ?_
                exact Reg.gw hI
              · obtain ⟨_, rfl, e114⟩ := hd 12 114; obtain ⟨_, rfl, e115⟩ := hd 13 115
                refine Reg.yes ?_
                have z1 : (0 : Int) ≤ (i : Int) := by omega
                have z2 : (i : Int) < (rl : Int) := by have := HI.out; omega
                have z3 : i < rl := HI.out; exact Reg.gw hI
              · obtain ⟨_, rfl, e116⟩ := hd 14 116
                refine Reg.yes ?_
                exact Reg.gw hI
              · obtain ⟨_, rfl, e117⟩ := hd 15 117
                refine Reg.yes ?_
                have x0 := HT0.out _ hI; exact Reg.gw hI
              · obtain ⟨_, rfl, e110⟩ := hd 8 110; obtain ⟨_, rfl, e118⟩ := hd 16 118
                refine Reg.yes ?_
                have y1 : decide (due = due) = true := by simp
                exact Reg.gw hI
              · obtain ⟨_, rfl, e109⟩ := hd 7 109; obtain ⟨_, rfl, e119⟩ := hd 17 119; have hc := hE.const
                refine Reg.yes ?_
                exact Reg.gw hI
              · obtain ⟨_, rfl, e106⟩ := hd 4 106; obtain ⟨_, rfl, e120⟩ := hd 18 120; have hc := hE.const; exact Reg.gw hI
              · obtain ⟨_, rfl, e121⟩ := hd 19 121; exact Reg.gw hI
              · have e13 : ρ (.tmp 13) = .int .i64 (i : Int) := hs 13
                refine Reg.yes ?_
                exact Reg.gw hI
              · obtain ⟨_, rfl, e123⟩ := hd 21 123; have hc := hE.const
                refine Reg.yes ?_
                have y1 : ¬ (i : Int) < 0 := by omega
                exact Reg.gw hI
              · obtain ⟨_, rfl, e124⟩ := hd 22 124
                refine Reg.yes ?_
                exact Reg.gw hI
              · exact Reg.no hI
              · exact Reg.no hI
              · obtain ⟨_, rfl, e125⟩ := hd 23 125; obtain ⟨_, rfl, e127⟩ := hd 25 127; have hc := hE.const
                refine Reg.yes ?_
                exact Reg.gw hI
              · obtain ⟨_, rfl, e122⟩ := hd 20 122; obtain ⟨_, rfl, e128⟩ := hd 26 128; have hc := hE.const; exact Reg.gw hI
              · obtain ⟨_, rfl, e129⟩ := hd 27 129; exact Reg.gw hI
              · have e3 : ρ (.tmp 3) = .pointer (some ⟨cb, 0, none⟩) := hs 3
                refine Reg.yes ?_
                exact Reg.gw hI
              · obtain ⟨_, rfl, e131⟩ := hd 29 131; have hf := hE.func
                refine Reg.yes ?_
                refine Reg.Gives.call (f := 21) (args := #[.pointer (some ⟨cb, 0, none⟩)]) (w' := wi) (by go_simp) ?_
                refine (HNOW.out wi hI).mono ?_
                rintro e w'' ⟨rfl, rfl⟩
                exact ⟨_, rfl, Reg.OwedH.same hI rfl⟩
              · have e4 : ρ (.tmp 4) = .pointer (some ⟨rb, 0, none⟩) := hs 4
                refine Reg.yes ?_
                exact Reg.gw hI
              · obtain ⟨_, rfl, e133⟩ := hd 31 133
                refine Reg.yes ?_
                exact Reg.gw hI
              · obtain ⟨_, rfl, e134⟩ := hd 32 134
                refine Reg.yes ?_
                exact Reg.gw hI
              · obtain ⟨_, rfl, e135⟩ := hd 33 135
                refine Reg.yes ?_
                have x0 := HR0.out _ hI; exact Reg.gw hI
              · obtain ⟨_, rfl, e132⟩ := hd 30 132; obtain ⟨_, rfl, e136⟩ := hd 34 136
                refine Reg.yes ?_
                have y1 : decide (tn = tn) = true := by simp
                exact Reg.gw hI
              · obtain ⟨_, rfl, e130⟩ := hd 28 130; obtain ⟨_, rfl, e137⟩ := hd 35 137; have hc := hE.const; exact Reg.gw hI
              · obtain ⟨_, rfl, e138⟩ := hd 36 138; exact Reg.gw hI
              · have e3 : ρ (.tmp 3) = .pointer (some ⟨cb, 0, none⟩) := hs 3
                refine Reg.yes ?_
                exact Reg.gw hI
              · obtain ⟨_, rfl, e140⟩ := hd 38 140; have hf := hE.func
                refine Reg.yes ?_
                refine Reg.Gives.call (f := 22) (args := #[.pointer (some ⟨cb, 0, none⟩)]) (w' := wi) (by go_simp) ?_
                refine (HALL.out wi hI).mono ?_
                rintro e w'' ⟨V0, c0, rfl, hp, hb⟩
                exact ⟨_, rfl, ⟨⟨V0, c0, rfl, hp⟩, hI.trans (hb.mono hI.size), fun j u _ _ h => whPl34_pos_later hb h⟩⟩
              · obtain ⟨u141, g141, e141⟩ := hd 39 141; have hf := hE.func
                refine Reg.yes ?_
                obtain ⟨V1, c1, rfl, hp1⟩ := g141
                refine Reg.Gives.call (f := 15) (args := #[.slice V1 q c1]) (w' := wi) (by go_simp) ?_
                refine (HPLN.out wi V1 c1 hp1).mono ?_
                rintro e w'' ⟨V0, c0, rfl, hp, hb⟩
                exact ⟨_, rfl, ⟨⟨V0, c0, rfl, hp⟩, hI.trans (hb.mono hI.size), fun j u _ _ h => whPl34_pos_later hb h⟩⟩
              · have e4 : ρ (.tmp 4) = .pointer (some ⟨rb, 0, none⟩) := hs 4
                refine Reg.yes ?_
                exact Reg.gw hI
              · obtain ⟨_, rfl, e143⟩ := hd 41 143; have hf := hE.func
                refine Reg.yes ?_
                refine Reg.Gives.call (f := 23) (args := #[.pointer (some ⟨rb, 0, none⟩)]) (w' := wi) (by go_simp) ?_
                refine (HRK.out wi hI).mono ?_
                rintro e w'' ⟨V0, c0, rfl, hp, hb⟩
                exact ⟨_, rfl, ⟨⟨V0, c0, rfl, hp⟩, hI.trans (hb.mono hI.size), fun j u _ _ h => whPl34_pos_later hb h⟩⟩
              · obtain ⟨u142, g142, e142⟩ := hd 40 142; obtain ⟨u144, g144, e144⟩ := hd 42 144; have hf := hE.func
                refine Reg.yes ?_
                obtain ⟨V1, c1, rfl, hp1⟩ := g142; obtain ⟨V2, c2, rfl, hp2⟩ := g144
                refine Reg.Gives.call (f := 14) (args := #[.slice V1 q c1, .slice V2 q c2]) (w' := wi) (by go_simp) ?_
                refine (HSM.out wi V1 c1 V2 c2 hp1 hp2).mono ?_
                rintro e w'' ⟨rfl, hb⟩
                exact ⟨_, rfl, ⟨rfl, hI.trans (hb.mono hI.size), fun j u _ _ h => whPl34_pos_later hb h⟩⟩
              · obtain ⟨_, rfl, e145⟩ := hd 43 145
                refine Reg.yes ?_
                exact Reg.gw hI
              · obtain ⟨_, rfl, e139⟩ := hd 37 139; obtain ⟨_, rfl, e146⟩ := hd 44 146; have hc := hE.const; exact Reg.gw hI
            · intro V wf hV hI
              have hV45 : V 45 = .bool false := hV 45 (by decide) rfl
              simp only [Reg.putsO, List.foldl_cons, List.foldl_nil, Act.put, List.setIfInBounds_toArray, List.set_cons_succ, List.set_cons_zero, hV45]
              replace hI : (fun a => Below we.heap.size we a) wf := hI
              clear hV hV45
              have hT := HTE.out.later hI
              have HNX : Hid (∀ cells : Array Value, Two w1.heap.size w1 (wf.alloc (.cells cells 37)) cb rb wf.heap.size cells.toList (fun j => j = wf.heap.size) C' R') := Lib.hid fun cells => hT.next cells rfl
              have HBX := Lib.hid hT.low
              clear hI hT HNOW HALL HPLN HRK HSM HR0
              go_wp2_with fail
              go_roundw
              case rel => exact ⟨k + 1, C', R', by omega, by go_num, HAL2, HNB2, HNX, HBX⟩
              case measure => simp [intOf]; omega
      · obtain rfl : k = n := by omega
        go_wp2_with fail
        go_returns
        exact ⟨rfl, HB1.out.trans (HB.out.mono HB1.out.size)⟩

theorem opened {H : Type} {enc : TypeId × Value → H} {W : World} {base : Nat} {gs : List (DataW H)} (v0 : Value) (d0 : DataW H) (p0 : List MemPlace)
    (o0 : Value.okWide Try.prog W .any base 22 v0) (t0 : DataW.Trod enc Try.prog W 0 (fun _ => true) true 22 v0 d0 p0)
    (hsz : (DataW.weightsEach Try.prog ([22] ++ []) ([d0] ++ gs)).all (· ≤ reachBytes) = true) :
    Calls Try.prog 3 #[v0] W fun e W' => e = .returned (.bool true) ∧ Below W.heap.size W W' := by
  obtain ⟨a0, len, cap, rfl⟩ := okWide_slice Try.underlying22 o0
  obtain ⟨A, os, cap', e, h1, h2, _⟩ := came_ops (came_of t0 (Base.small_of hsz (j := 0) rfl rfl) (by simp [Value.cells]))
  rw [e]
  exact walk A os cap' W h1 h2

theorem contract (H : Type) (enc : TypeId × Value → H) (W : World) (base : Nat) (args : Array Value) (ds gs : List (DataW H)) (before : List MemPlace)
    (hval : ∀ (j : Nat) t v, Try.f3.params[j]? = some t → args[j]? = some v → Value.okWide Try.prog W .any base t v)
    (hW : DataW.Whole enc Try.prog Try.f3.params.toList Rows.wheelPlaysSpec.vars false W args.toList ds gs before)
    (hsz : (DataW.weightsEach Try.prog (Try.f3.params.toList ++ []) (ds ++ gs)).all (· ≤ reachBytes) = true) :
    Calls Try.prog 3 args W fun e W' => ∃ v, e = .returned v ∧ Rows.wheelPlaysSpec.post enc Try.prog Try.f3 false true false false W args v W' := by
  have hW0 := hW
  obtain ⟨p, q, hA0, hV, rfl, _, _⟩ := hW
  have hA : DataW.TrodAll enc Try.prog W 0 (fun _ => true) true Try.f3.params.toList args.toList ds p := hA0
  rw [Try.params3] at hA hval hsz
  obtain ⟨v0, vs0, d0, ds0, p0, q0, hargs, rfl, rfl, h0, r0⟩ := trodAll_cons hA
  obtain ⟨rfl, rfl, rfl⟩ := trodAll_nil r0
  obtain rfl : args = #[v0] := by cases args; simp_all
  refine (opened v0 d0 p0 (hval 0 22 v0 rfl rfl) h0 hsz).mono fun e W' ⟨he, hb⟩ => ⟨_, he, ?_⟩
  exact Base.law_post (tb := 4) Base.laidOut (by kernel_rfl) rfl Try.underlying4 rfl (fun l hl => by
    rw [Try.params3] at hl
    match l, hl with
    | [_], _ => rfl) (by rw [Try.params3]; rfl) hW0 hb

theorem laid_met (os : Os) : laidMet Try.prog Rows.wheelPlaysRow.laid ((Base.plainWorld os).forCall (fun _ _ => 0) ⟨#[], #[.slice none 0 0], []⟩).memory := laidMet_nil _ _
theorem reads (os : Os) {H : Type} (enc : TypeId × Value → H) : ∃ places, DataW.whole enc Try.prog ((Base.plainWorld os).forCall (fun _ _ => 0) ⟨#[], #[.slice none 0 0], []⟩).memory Try.f3.params.toList Rows.wheelPlaysSpec.vars false (#[.slice none 0 0] : Array Value).toList 8 = some ([.nil], [], places) :=
  ⟨[], by kernel_rfl⟩

set_option maxRecDepth 100000 in
theorem lifted (os : Os) (started : os.Started) (H : Type) (enc : TypeId × Value → H) (F : Stop.Interp) :
    ReturnsInHanded {} Try.checked os 3 .any ((OpenSpec.ofChange Rows.wheelPlaysSpec).preRow enc Try.prog Try.f3 Rows.wheelPlaysRow.domain false Rows.wheelPlaysRow.laid) (((OpenSpec.ofChange Rows.wheelPlaysSpec).at F).post enc Try.prog Try.f3 false true false false) := by
  obtain ⟨places, hx⟩ := reads os enc
  refine returnsInHanded_of_row (C := Try.checked) (s := OpenSpec.ofChange Rows.wheelPlaysSpec) Base.own started (by kernel_rfl) Try.func3
    (witness_row_at (enc := enc) (C := Try.checked) false (Base.plainWorld os) #[.slice none 0 0] rfl (by kernel_rfl) (by kernel_rfl) (by kernel_rfl)
      (OpenSpec.preRow_of_cond 8 hx (by kernel_rfl) (fun k hk => by cases hk) (by kernel_rfl) (laid_met os))) ?_
  intro W base args ds gs before hval hW _ _ hsz _ _ _
  exact contract H enc W base args ds gs before hval hW hsz

theorem said : Rows.WheelPlaysSaid :=
  OpenClaim.holds_of_cond 3 Try.f3 rfl rfl rfl rfl rfl rfl rfl ⟨rfl, rfl, rfl, rfl, rfl⟩ rfl rfl rfl rfl rfl (by kernel_rfl) Try.func3 (by kernel_rfl)
    (of_decide_eq_true (by kernel_rfl)) (by unfold Func.isWrapper; rw [if_neg (of_decide_eq_false (by kernel_rfl))]; exact ⟨rfl, rfl⟩)
    (fun os started H enc _ F => by rw [OpenClaim.pre_eq_preRow]; exact lifted os started H enc F)
#print axioms said
end Go.Proofs.Ytnbdgjaekjneaaa.WheelPlays
