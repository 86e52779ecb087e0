/-
  NetPlays is proved: a net answers and has what the document's has. Conditions: none.
-/
import Derived.Test.YtfhcfiebhagbeaaNetDuo
import Derived.Test.YtfhcfiebhagbeaaReg4
import Derived.Deep.CutBlock
namespace Go.Proofs.Ytfhcfiebhagbeaa.NetPlays
set_option maxRecDepth 100000
open Go.ChangeShapes Go.WideShapes Go.ChangeAt Go.RowKit Go.Deep Go.Proofs.Ytfhcfiebhagbeaa.Mem Go.Proofs.Ytfhcfiebhagbeaa.Net

def netPl36 (b rb q ac : Nat) (z : Int) (RA : Option Addr) (sl : List Pk) : Nat → Value → World → Prop
  | 0, v, _ => v = .int .i64 z
  | 1, v, _ => v = .int .i64 z
  | 2, v, _ => v = .bool false
  | 3, v, _ => v = .bool false
  | 4, v, _ => v = .pointer (some ⟨b, 0, none⟩)
  | 5, v, _ => v = .int .i64 (q : Int)
  | 6, v, _ => v = .pointer (some ⟨rb, 0, none⟩)
  | 7, v, _ => v = .pointer (some ⟨rb, 0, none⟩)
  | 8, v, _ => v = .pointer (some ⟨rb, 1, none⟩)
  | 9, v, _ => v = .slice RA q ac
  | 10, v, _ => v = .int .i64 (q : Int)
  | 11, v, _ => v = .bool false
  | 12, v, _ => v = .bool false
  | 13, v, _ => v = .bool false
  | 14, v, _ => v = .pointer (some ⟨b, 0, none⟩)
  | 15, v, w => ∃ V0 c0, v = Value.slice V0 q c0 ∧ Pks w V0 sl
  | 16, v, w => ∃ V0 c0, v = Value.slice V0 q c0 ∧ Pks w V0 sl
  | 17, v, _ => v = .pointer (some ⟨rb, 0, none⟩)
  | 18, v, _ => v = .pointer (some ⟨rb, 0, none⟩)
  | 19, v, _ => v = .pointer (some ⟨rb, 1, none⟩)
  | 20, v, _ => v = .slice RA q ac
  | 21, v, _ => v = .bool true
  | 22, v, _ => v = .bool false
  | 23, v, _ => v = .bool false
  | _, _, _ => True
theorem netPl36_later {b rb q ac : Nat} {z : Int} {RA : Option Addr} {sl : List Pk} {j : Nat} {v : Value} {w w' : World} (hb : Below w.heap.size w w') (h : netPl36 b rb q ac z RA sl j v w) : netPl36 b rb q ac z RA sl j v w' := by
  match j, h with
  | 0, h | 1, h | 2, h | 3, h | 4, h | 5, h | 6, h | 7, h | 8, h | 9, h | 10, h | 11, h | 12, h | 13, h | 14, h | 17, h | 18, h | 19, h | 20, h | 21, h | 22, h | 23, h => exact h
  | 15, h =>
    obtain ⟨V0, c0, h1, h2⟩ := h
    exact ⟨V0, c0, h1, h2.later hb⟩
  | 16, h =>
    obtain ⟨V0, c0, h1, h2⟩ := h
    exact ⟨V0, c0, h1, h2.later hb⟩
  | _ + 24, _ => exact trivial
set_option maxHeartbeats 2000000 in
theorem walk (nd : Int) (A : Option Addr) (os : List Opk) (cap : Nat) (w : World) (h : Opks w A os) (hl : os.length ≤ 140737488351232) :
    Calls Try.prog 3 #[.int .i64 nd, .slice A os.length cap] w fun e w' => e = .returned (.bool true) ∧ Below w.heap.size w w' := by
  have HC := Lib.hid (awake_any w)
  obtain ⟨n, hn⟩ : ∃ n, os.length = n := ⟨_, rfl⟩
  have HLN := Lib.hid hn
  have HH := Lib.hid h
  have hl0 := hl
  rw [hn] at hl ⊢
  have HGR := Lib.hid (fun (w1 : World) (hb : Below w.heap.size w w1) => great_any A os cap w1 (h.later hb) hl0)
  rw [hn] at HGR
  clear h hn hl0
  go_enter Try.func3, Try.ntmps3
  go_wp2_with fail
  refine HC.out.mono ?_
  rintro e w1 ⟨rfl, hb1⟩
  have HB1 := Lib.hid hb1
  clear hb1 HC
  by_cases hnd : nd < 1 ∨ 16 < nd
  · have HC := Lib.hid (New_err nd w1 hnd)
    have HC2 := Lib.hid (RNew_err nd w1 hnd)
    clear hnd
    go_wp2_with fail
    refine HC.out.mono ?_
    rintro e w2 ⟨rfl, rfl⟩
    go_wp2_with fail
    refine HC2.out.mono ?_
    rintro e w3 ⟨rfl, rfl⟩
    go_wp2_with fail
    go_returns
    exact ⟨rfl, HB1.out⟩
  have hn1 : 1 ≤ nd ∧ nd ≤ 16 := by omega
  have HC := Lib.hid (New_any nd w1 hn1.1 hn1.2)
  go_wp2_with fail
  refine HC.out.mono ?_
  rintro e wa ⟨b, m, rfl, hn2, hb2⟩
  have HB2 := Lib.hid hb2
  have HN2 := Lib.hid hn2
  have HC2 := Lib.hid (RNew_any nd wa hn1.1 hn1.2)
  clear hn2 hb2 HC hnd
  go_wp2_with fail
  refine HC2.out.mono ?_
  rintro e wb ⟨rb, rfl, hr2, hb3⟩
  have HB3 := Lib.hid hb3
  have HR2 := Lib.hid hr2
  have HG2 := Lib.hid (HGR.out wb (HB1.out.trans ((HB2.out.trans (hb3.mono HB2.out.size)).mono HB1.out.size)))
  clear hr2 hb3 HC2 HGR
  go_wp2_with fail
  refine HG2.out.mono ?_
  rintro e w3 ⟨rfl, hb4⟩
  have HB4 := Lib.hid ((HB2.out.trans (HB3.out.mono HB2.out.size)).trans (hb4.mono (Nat.le_trans HB2.out.size HB3.out.size)))
  have HST : Hid (∀ cells : Array Value, Two w1.heap.size w1 (w3.alloc (.cells cells 33)) b m rb w3.heap.size cells.toList (fun j => j = w3.heap.size) ⟨nd, fun _ _ => false, []⟩ ⟨nd, [], []⟩ 0) :=
    Lib.hid fun cells => two_new rfl HN2.out HB2.out (HR2.out.later hb4) (HB3.out.trans (hb4.mono HB3.out.size)) (Nat.le_refl _) cells
  have HAL : Hid (Net.Alike ⟨nd, fun _ _ => false, []⟩ ⟨nd, [], []⟩) := Lib.hid ⟨rfl, rfl, fun _ _ _ => rfl⟩
  clear hb4 HG2 HN2 HR2 HB2 HB3
  cases hgr : greatN os with
  | true =>
    clear hgr
    go_wp2_with fail
    go_returns
    exact ⟨rfl, HB1.out.trans (HB4.out.mono HB1.out.size)⟩
  | false =>
    have HTT : Hid (n ≤ 80 ∧ total os ≤ 400) := Lib.hid (by
      unfold greatN at hgr
      rw [HLN.out] at hgr
      simp at hgr
      exact hgr)
    clear hgr
    go_wp2_with fail
    go_loopw [43] (fun i wr => ∃ (k : Nat) (N : Nt) (R : Rf), k ≤ n ∧ i = .int .i64 (k : Int) ∧ Hid (Net.Alike N R) ∧ Hid (∀ cells : Array Value, Two w1.heap.size w1 (wr.alloc (.cells cells 33)) b m rb wr.heap.size cells.toList (fun j => j = wr.heap.size) N R k) ∧ Hid (Below w1.heap.size w1 wr)) (fun i _ => n - (intOf i).toNat)
    case atStart => exact ⟨0, _, _, Nat.zero_le _, rfl, HAL, HST, HB4⟩
    case round =>
      clear HST HB4 HAL
      obtain ⟨k, N, R, hk, rfl, HAL, HS, HB⟩ := hrel
      by_cases hkn : k < n
      · have hkl : k < os.length := by rw [HLN.out]; exact hkn
        obtain ⟨g, off, rfl, hr, ho⟩ := ((HH.out.later HB1.out).later HB.out).at hkl
        have HTK := Lib.hid (total_take os k hkl)
        have HTL := Lib.hid (total_le os (k + 1))
        obtain ⟨o, hoe⟩ : ∃ o, os[k] = o := ⟨_, rfl⟩
        rw [hoe] at hr ho HTK
        have x0 := hr 0 _ rfl
        rw [Nat.add_zero] at x0
        have x1 := hr 1 _ rfl
        have x2 := hr 2 _ rfl
        have x3 := hr 3 _ rfl
        obtain ⟨we, hwe⟩ : ∃ W, W = wr.alloc (.cells #[.int .i64 o.k, .int .i64 o.a, .int .i64 o.b, .slice o.A o.l.length o.c] 33) := ⟨_, rfl⟩
        obtain ⟨gb, hgb⟩ : ∃ gb, wr.heap.size = gb := ⟨_, rfl⟩
        obtain ⟨u, hu⟩ : ∃ u, u = k + 1 := ⟨_, rfl⟩
        obtain ⟨F, hF⟩ : ∃ F : Nat → Prop, F = fun j => j = gb := ⟨_, rfl⟩
        have hT := (HS.out #[.int .i64 o.k, .int .i64 o.a, .int .i64 o.b, .slice o.A o.l.length o.c]).fewer (u' := u) (fun _ e => e) rfl (by omega)
        rw [← hwe, hgb, ← hF] at hT
        have HOK := Lib.hid ho
        have HIN : Hid (∀ w', Below w1.heap.size w1 w' → o.Ok w') := Lib.hid fun w' hb => by rw [← hoe]; exact (((HH.out.later HB1.out).later hb).2 _ (List.getElem_mem hkl))
        have HFW : Hid (R.cs.length ≤ k) := Lib.hid (HS.out #[]).few
        have HU := Lib.hid hu
        have HFE := Lib.hid hF
        clear hr ho hoe hkl HS HB hu hF
        obtain ⟨ok, oa, ob, oA, oc, ol⟩ := o
        dsimp only at x0 x1 x2 x3 hwe HTK hT
        obtain ⟨lq, hlq⟩ : ∃ lq, ol.length = lq := ⟨_, rfl⟩
        have HOL := Lib.hid hlq
        have hlq2 : lq ≤ 400 := by have h2 := HTT.out; have h3 := HTK.out; have h4 := HTL.out; omega
        rw [hlq] at x3 hwe hT
        have y0 := hT.box.cell (j := 0) rfl
        obtain ⟨vs, hvs⟩ : ∃ vs, vs = [Value.int .i64 ok, Value.int .i64 oa, Value.int .i64 ob, Value.slice oA lq oc] := ⟨_, rfl⟩
        rw [← hvs] at hT
        have HV : Hid (vs[1]? = some (.int .i64 oa) ∧ vs[2]? = some (.int .i64 ob) ∧ vs[3]? = some (.slice oA lq oc)) := Lib.hid (by rw [hvs]; exact ⟨rfl, rfl, rfl⟩)
        have HT := Lib.hid hT
        clear hlq hT hvs
        go_upto_block 2 with fail
        rw [← hwe]
        clear hwe x0 x1 x2 x3 hgb
        go_cut [10, 11, 12, 13, 14, 15] from 49 to 176 (fun x y _ _ _ _ wx => ∃ (N' : Nt) (R' : Rf) (z : Int), x = .int .i64 z ∧ y = .int .i64 z ∧ Hid (Net.Alike N' R') ∧ Hid (Two w1.heap.size w1 wx b m rb gb vs F N' R' u))
        case first =>
          by_cases k0 : ok = 0
          · subst k0
            obtain ⟨ha1, ha2⟩ := HAL.out.send ol
            have hcn : ∀ (wi : World) (R' : Rf) (G : Nat → Prop), Two w1.heap.size w1 wi b m rb gb vs G N R' u → Calls Try.prog 11 #[.pointer (some ⟨b, 0, none⟩), .slice oA lq oc] wi fun e w' => e = .returned (.int .i64 (sendL N ol).2) ∧ Two w1.heap.size w1 w' b m rb gb vs G (sendL N ol).1 R' u ∧ Only (fun j => ¬ G j) wi w' := fun wi R' G h1 => by
              have h2 := h1.callN (N' := (sendL N ol).1) (Q := fun e => e = .returned (.int .i64 (sendL N ol).2)) (fun A c hn => Send_any hn oA ol oc (by rw [HOL.out]; omega) HOK.out.oks h1.big (fun w' ho => (HIN.out w' (h1.low.trans (ho.below h1.big fun k e => (hn.lt e).1))).pks))
              rw [HOL.out] at h2
              exact h2
            have hcr : ∀ (wi : World) (N' : Nt) (G : Nat → Prop) (V0 : Option Addr) (n0 c0 : Nat), Two w1.heap.size w1 wi b m rb gb vs G N' R u → RkRow w1.heap.size wi (.slice V0 n0 c0) ol → (∀ k, blk V0 = some k → G k) → Calls Try.prog 12 #[.pointer (some ⟨rb, 0, none⟩), .slice V0 n0 c0] wi fun e w' => e = .returned (.int .i64 (sendR R ol).2) ∧ Two w1.heap.size w1 w' b m rb gb vs G N' (sendR R ol).1 u ∧ Only (fun j => ¬ G j) wi w' := fun wi N' G V0 n0 c0 h1 q2 q3 => h1.sendR q2 q3 (by rw [HOL.out]; omega)
            have HPL : Hid (∀ (wi : World) (N' : Nt) (R' : Rf) (G : Nat → Prop), Two w1.heap.size w1 wi b m rb gb vs G N' R' u → Calls Try.prog 13 #[.slice oA lq oc] wi fun e w' => ∃ V0 c0, e = .returned (.slice V0 lq c0) ∧ Two w1.heap.size w1 w' b m rb gb vs (fun j => G j ∨ blk V0 = some j) N' R' u ∧ RkRow w1.heap.size w' (.slice V0 lq c0) ol) := Lib.hid fun wi N' R' G h1 => by
              have h2 := h1.plain oc (HIN.out wi h1.low).pks (by rw [HOL.out]; omega)
              dsimp only at h2
              rw [HOL.out] at h2
              exact h2
            rw [← ha2] at hcr
            obtain ⟨N1, hN1⟩ : ∃ X, (sendL N ol).1 = X := ⟨_, rfl⟩
            obtain ⟨R1, hR1⟩ : ∃ X, (sendR R ol).1 = X := ⟨_, rfl⟩
            obtain ⟨z, hz⟩ : ∃ X, (sendL N ol).2 = X := ⟨_, rfl⟩
            rw [hN1, hz] at hcn
            rw [hR1, hz] at hcr
            rw [hN1, hR1] at ha1
            have HCN := Lib.hid hcn
            have HCR := Lib.hid hcr
            have HAL2 := Lib.hid ha1
            clear hcn hcr ha1 ha2 hN1 hR1 hz
            go_upto_region 17 with (fail)
            clear y0
            refine Reg.region_inv (by kernel_rfl) (fun i => ([some (.pointer (some ⟨b, 0, none⟩)), some (.pointer (some ⟨gb, 3, none⟩)), some (.slice oA lq oc), some (.int .i64 z), some (.pointer (some ⟨rb, 0, none⟩)), some (.pointer (some ⟨gb, 3, none⟩)), some (.slice oA lq oc), none, some (.int .i64 z), some (.bool false)] : List (Option Value)).getD i none) (fun D V W => ∃ G : Nat → Prop, Two w1.heap.size w1 W b m rb gb vs G (cond (D 3) N1 N) (cond (D 8) R1 R) u ∧ ((D 7) = true → ∃ V0 n0 c0, V 7 = Value.slice V0 n0 c0 ∧ RkRow w1.heap.size W (.slice V0 n0 c0) ol ∧ ∀ k, blk V0 = some k → G k)) (fun V => [(some 51, V 0), (some 52, V 1), (some 53, V 2), (some 54, V 3), (some 55, V 4), (some 56, V 5), (some 57, V 6), (some 58, V 7), (some 59, V 8), (some 60, V 9)]) (by kernel_rfl) (by kernel_rfl) (fun V => rfl) ?_ ?_ ?_
            · intro V
              exact ⟨F, HT.out.later (Below.refl _ _).drew, fun e => by cases e⟩
            · intro i o ho
              have hi : i < 10 := (Array.getElem?_eq_some_iff.1 ho).1
              rcases i with _ | _ | _ | _ | _ | _ | _ | _ | _ | _ | i
              rotate_right
              · omega
              all_goals obtain rfl := Option.some.inj ho
              all_goals intro D V ρ wi hE hI hDi hT hF hs hd hk
              · have e5 : ρ (.tmp 5) = .pointer (some ⟨b, 0, none⟩) := hs 5; clear hT hF hk
                exact Reg.Gives.value (v := .pointer (some ⟨b, 0, none⟩)) (w' := wi) (by go_simp) ⟨fun x h => Option.some.inj h, hI⟩
              · have e9 : ρ (.tmp 9) = .pointer (some ⟨gb, 0, none⟩) := hs 9; clear hT hF hk
                exact Reg.Gives.value (v := .pointer (some ⟨gb, 3, none⟩)) (w' := wi) (by go_simp) ⟨fun x h => Option.some.inj h, hI⟩
              · have e52 : ρ (.tmp 52) = .pointer (some ⟨gb, 3, none⟩) := (hd 1 52).trans (hk 1 _ rfl); clear hT hF
                have y3 : wi.cell? ⟨gb, 3, none⟩ = some (.slice oA lq oc) := by obtain ⟨G, h1, _⟩ := hI; exact h1.box.cell HV.out.2.2
                exact Reg.Gives.value (v := .slice oA lq oc) (w' := wi) (by go_simp) ⟨fun x h => Option.some.inj h, hI⟩
              · have e51 : ρ (.tmp 51) = .pointer (some ⟨b, 0, none⟩) := (hd 0 51).trans (hk 0 _ rfl); have e53 : ρ (.tmp 53) = .slice oA lq oc := (hd 2 53).trans (hk 2 _ rfl); have hf := hE.func; have hD3 : D 3 = false := hDi; clear hT hF; obtain ⟨G, h1, h7⟩ := hI
                rw [hD3] at h1
                replace h1 : Two w1.heap.size w1 wi b m rb gb vs G N (cond (D 8) R1 R) u := h1
                refine Reg.Gives.call (f := 11) (args := #[.pointer (some ⟨b, 0, none⟩), .slice oA lq oc]) (w' := wi) (by go_simp) ?_
                refine (HCN.out wi _ G h1).mono ?_
                rintro e w'' ⟨rfl, hn, ho⟩
                refine ⟨_, rfl, fun x h => Option.some.inj h, ?_⟩
                show ∃ G : Nat → Prop, Two w1.heap.size w1 w'' b m rb gb vs G (cond true N1 N) (cond (D 8) R1 R) u ∧ ((D 7) = true → ∃ V0 n0 c0, V 7 = Value.slice V0 n0 c0 ∧ RkRow w1.heap.size w'' (.slice V0 n0 c0) ol ∧ ∀ k, blk V0 = some k → G k)
                refine ⟨G, hn, fun e => ?_⟩
                obtain ⟨V0, n0, c0, q1, q2, q3⟩ := h7 e; exact ⟨V0, n0, c0, q1, q2.kept ho q3, q3⟩
              · have e7 : ρ (.tmp 7) = .pointer (some ⟨rb, 0, none⟩) := hs 7; clear hT hF hk
                exact Reg.Gives.value (v := .pointer (some ⟨rb, 0, none⟩)) (w' := wi) (by go_simp) ⟨fun x h => Option.some.inj h, hI⟩
              · have e9 : ρ (.tmp 9) = .pointer (some ⟨gb, 0, none⟩) := hs 9; clear hT hF hk
                exact Reg.Gives.value (v := .pointer (some ⟨gb, 3, none⟩)) (w' := wi) (by go_simp) ⟨fun x h => Option.some.inj h, hI⟩
              · have e56 : ρ (.tmp 56) = .pointer (some ⟨gb, 3, none⟩) := (hd 5 56).trans (hk 5 _ rfl); clear hT hF
                have y3 : wi.cell? ⟨gb, 3, none⟩ = some (.slice oA lq oc) := by obtain ⟨G, h1, _⟩ := hI; exact h1.box.cell HV.out.2.2
                exact Reg.Gives.value (v := .slice oA lq oc) (w' := wi) (by go_simp) ⟨fun x h => Option.some.inj h, hI⟩
              · have e57 : ρ (.tmp 57) = .slice oA lq oc := (hd 6 57).trans (hk 6 _ rfl); have hf := hE.func; clear hT hF; obtain ⟨G, h1, h7⟩ := hI
                refine Reg.Gives.call (f := 13) (args := #[.slice oA lq oc]) (w' := wi) (by go_simp) ?_
                refine (HPL.out wi _ _ G h1).mono ?_
                rintro e w'' ⟨V9, c9, rfl, hn, hrow⟩
                refine ⟨_, rfl, fun x h => (by cases h), ?_⟩
                show ∃ G : Nat → Prop, Two w1.heap.size w1 w'' b m rb gb vs G (cond (D 3) N1 N) (cond (D 8) R1 R) u ∧ (true = true → ∃ V0 n0 c0, (Value.slice V9 lq c9) = Value.slice V0 n0 c0 ∧ RkRow w1.heap.size w'' (.slice V0 n0 c0) ol ∧ ∀ k, blk V0 = some k → G k)
                exact ⟨_, hn, fun _ => ⟨V9, lq, c9, rfl, hrow, fun k e => Or.inr e⟩⟩
              · have e55 : ρ (.tmp 55) = .pointer (some ⟨rb, 0, none⟩) := (hd 4 55).trans (hk 4 _ rfl); have e58 : ρ (.tmp 58) = V 7 := hd 7 58; have hf := hE.func; have hD7 : D 7 = true := hT 1 7; have hD8 : D 8 = false := hDi; clear hT hF; obtain ⟨G, h1, h7⟩ := hI
                rw [hD8] at h1
                replace h1 : Two w1.heap.size w1 wi b m rb gb vs G (cond (D 3) N1 N) R u := h1
                obtain ⟨V0, n0, c0, q1, q2, q3⟩ := h7 hD7
                rw [q1] at e58
                refine Reg.Gives.call (f := 12) (args := #[.pointer (some ⟨rb, 0, none⟩), .slice V0 n0 c0]) (w' := wi) (by go_simp) ?_
                refine (HCR.out wi _ G V0 n0 c0 h1 q2 q3).mono ?_
                rintro e w'' ⟨rfl, hn, ho⟩
                refine ⟨_, rfl, fun x h => Option.some.inj h, ?_⟩
                show ∃ G : Nat → Prop, Two w1.heap.size w1 w'' b m rb gb vs G (cond (D 3) N1 N) (cond true R1 R) u ∧ ((D 7) = true → ∃ V0 n0 c0, V 7 = Value.slice V0 n0 c0 ∧ RkRow w1.heap.size w'' (.slice V0 n0 c0) ol ∧ ∀ k, blk V0 = some k → G k)
                exact ⟨G, hn, fun _ => ⟨V0, n0, c0, q1, q2.kept ho q3, q3⟩⟩
              · have e54 : ρ (.tmp 54) = .int .i64 z := (hd 3 54).trans (hk 3 _ rfl); have e59 : ρ (.tmp 59) = .int .i64 z := (hd 8 59).trans (hk 8 _ rfl); clear hT hF hk
                exact Reg.Gives.value (v := .bool false) (w' := wi) (by go_simp) ⟨fun x h => Option.some.inj h, hI⟩
            · intro V wf hk hI
              have hV9 : V 9 = .bool false := hk 9 (by show _ < 10; decide) _ rfl
              simp only [Reg.putsO, List.foldl_cons, List.foldl_nil, Act.put, List.setIfInBounds_toArray, List.set_cons_succ, List.set_cons_zero, hV9]
              replace hI : ∃ G : Nat → Prop, Two w1.heap.size w1 wf b m rb gb vs G (cond true N1 N) (cond true R1 R) u ∧ (true = true → ∃ V0 n0 c0, V 7 = Value.slice V0 n0 c0 ∧ RkRow w1.heap.size wf (.slice V0 n0 c0) ol ∧ ∀ k, blk V0 = some k → G k) := hI
              clear hk hV9
              obtain ⟨G, hn, _⟩ := hI
              replace hn : Two w1.heap.size w1 wf b m rb gb vs G N1 R1 u := hn
              have HT2 := Lib.hid (hn.fewer (G := F) (by rw [HFE.out]; rintro k rfl; exact hn.fgb) (by rw [HFE.out]) (Nat.le_refl _))
              clear hn
              go_wp2_with fail
              go_meet
              case rel => exact ⟨N1, R1, 0, rfl, rfl, HAL2, HT2⟩
          · by_cases k1 : ok = 1
            · subst k1
              obtain ⟨ha1, ha2, ha3⟩ := HAL.out.take oa
              have hc := HT.out.callN (N' := (takeN N oa).2.2) (Q := fun e => e = .returned (.tuple #[(takeN N oa).1.val, .int .i64 (takeN N oa).2.1])) (fun A c hn => Take_any hn oa)
              have hcr : ∀ (wi : World) (N' : Nt) (G : Nat → Prop), Two w1.heap.size w1 wi b m rb gb vs G N' R u → Calls Try.prog 15 #[.pointer (some ⟨rb, 0, none⟩), .int .i64 oa] wi fun e w' => e = .returned (.tuple #[(takeR R oa).1.val, .int .i64 (takeR R oa).2.1]) ∧ Two w1.heap.size w1 w' b m rb gb vs G N' (takeR R oa).2.2 u ∧ Only (fun j => ¬ G j) wi w' := fun wi N' G h1 => h1.callR (by rw [takeR_cs]; exact h1.few) fun A2 ac C cc hr => RTake_any hr oa h1.big
              rw [← ha1, ← ha2] at hcr
              obtain ⟨⟨p, z, N1⟩, ht⟩ : ∃ X, takeN N oa = X := ⟨_, rfl⟩
              obtain ⟨R1, hR1⟩ : ∃ X, (takeR R oa).2.2 = X := ⟨_, rfl⟩
              rw [hR1, ht] at hcr
              rw [ht] at hc
              rw [hR1, ht] at ha3
              dsimp only at hcr hc ha3
              unfold Pk.val at hcr hc
              have HC := Lib.hid hc
              have HCR := Lib.hid hcr
              have HAL2 := Lib.hid ha3
              have y1 := HT.out.box.cell HV.out.1
              clear hc hcr ha1 ha2 ha3 ht hR1
              go_wp2_with fail
              refine HC.out.mono ?_
              rintro e wx ⟨rfl, hn, _⟩
              obtain ⟨wy, hwy⟩ : ∃ W, W = wx.alloc (.cells #[.int .i64 p.src, .int .i64 p.dst, .string p.bytes, .bool p.spoilt] 39) := ⟨_, rfl⟩
              have hby : Below wx.heap.size wx wy := by rw [hwy]; exact below_alloc _ _
              have hcy : Cells wy wx.heap.size 39 p.vals := by rw [hwy]; exact cells_new _ _ _ _ rfl
              have hn2 := hn.add hby (G := fun j => j = wx.heap.size) (fun j e => by rw [e]; exact ⟨Nat.le_refl _, hcy.lt⟩)
              have z1 := hn2.box.cell HV.out.1
              have HC2 := Lib.hid (HCR.out wy _ _ hn2)
              have HCY := Lib.hid hcy
              clear hn hby hcy hn2 HC HCR y0 y1
              go_upto_region 21 with (fail)
              rw [← hwy]
              clear hwy
              go_wp2_with fail
              refine HC2.out.mono ?_
              rintro e wz ⟨rfl, hn3, ho3⟩
              obtain ⟨wv, hwv⟩ : ∃ W, W = wz.alloc (.cells #[.int .i64 p.src, .int .i64 p.dst, .string p.bytes, .bool p.spoilt] 42) := ⟨_, rfl⟩
              have hbv : Below wz.heap.size wz wv := by rw [hwv]; exact below_alloc _ _
              have hcv : Cells wv wz.heap.size 42 p.vals := by rw [hwv]; exact cells_new _ _ _ _ rfl
              have hcz := (cells_only HCY.out ho3 (fun e => e (Or.inr rfl))).later hbv
              have a0 := hcv.cell (j := 0) rfl
              have a1 := hcv.cell (j := 1) rfl
              have a2 := hcv.cell (j := 2) rfl
              have a3 := hcv.cell (j := 3) rfl
              have d0 := hcz.cell (j := 0) rfl
              have d1 := hcz.cell (j := 1) rfl
              have d2 := hcz.cell (j := 2) rfl
              have d3 := hcz.cell (j := 3) rfl
              have HT2 := Lib.hid ((hn3.later hbv).fewer (G := F) (fun _ e => Or.inl e) (by rw [HFE.out]) (Nat.le_refl _))
              clear hn3 ho3 hbv hcv hcz HC2 HCY z1
              go_upto_region 22 with (fail)
              rw [← hwv]
              clear hwv
              go_wp2_with fail
              go_meet
              case rel => exact ⟨N1, R1, z, rfl, rfl, HAL2, HT2⟩
            · by_cases k2 : ok = 2
              · subst k2
                obtain ⟨ha2, ha1⟩ := HAL.out.double oa
                have hcn : ∀ (wi : World) (R' : Rf), Two w1.heap.size w1 wi b m rb gb vs F N R' u → Calls Try.prog 16 #[.pointer (some ⟨b, 0, none⟩), .int .i64 oa] wi fun e w' => e = .returned (.int .i64 (doubleN N oa).1) ∧ Two w1.heap.size w1 w' b m rb gb vs F (doubleN N oa).2 R' u ∧ Only (fun j => ¬ F j) wi w' := fun wi R' h1 => h1.callN fun A c hn => Double_any hn oa h1.big
                have hcr : ∀ (wi : World) (N' : Nt), Two w1.heap.size w1 wi b m rb gb vs F N' R u → Calls Try.prog 17 #[.pointer (some ⟨rb, 0, none⟩), .int .i64 oa] wi fun e w' => e = .returned (.int .i64 (doubleR R oa).1) ∧ Two w1.heap.size w1 w' b m rb gb vs F N' (doubleR R oa).2 u ∧ Only (fun j => ¬ F j) wi w' := fun wi N' h1 => h1.callR (by rw [doubleR_cs]; exact h1.few) fun A2 ac C cc hr => RDouble_any hr oa h1.big
                rw [← ha2] at hcr
                obtain ⟨N1, hN1⟩ : ∃ X, (doubleN N oa).2 = X := ⟨_, rfl⟩
                obtain ⟨R1, hR1⟩ : ∃ X, (doubleR R oa).2 = X := ⟨_, rfl⟩
                obtain ⟨z, hz⟩ : ∃ X, (doubleN N oa).1 = X := ⟨_, rfl⟩
                rw [hN1, hz] at hcn
                rw [hR1, hz] at hcr
                rw [hN1, hR1] at ha1
                have HCN := Lib.hid hcn
                have HCR := Lib.hid hcr
                have HAL2 := Lib.hid ha1
                clear hcn hcr ha1 ha2 hN1 hR1 hz
                go_upto_region 26 with (fail)
                clear y0
                refine Reg.region_inv (by kernel_rfl) (fun i => ([some (.pointer (some ⟨b, 0, none⟩)), some (.pointer (some ⟨gb, 1, none⟩)), some (.int .i64 oa), some (.int .i64 z), some (.pointer (some ⟨rb, 0, none⟩)), some (.pointer (some ⟨gb, 1, none⟩)), some (.int .i64 oa), some (.int .i64 z), some (.int .i64 z), some (.int .i64 z)] : List (Option Value)).getD i none) (fun D V W => Two w1.heap.size w1 W b m rb gb vs F (cond (D 3) N1 N) (cond (D 7) R1 R) u) (fun V => [(some 84, V 0), (some 85, V 1), (some 86, V 2), (some 87, V 3), (some 88, V 4), (some 89, V 5), (some 90, V 6), (some 91, V 7), (some 10, V 8), (some 11, V 9)]) (by kernel_rfl) (by kernel_rfl) (fun V => rfl) ?_ ?_ ?_
                · intro V
                  exact HT.out.later (Below.refl _ _).drew
                · intro i o ho
                  have hi : i < 10 := (Array.getElem?_eq_some_iff.1 ho).1
                  rcases i with _ | _ | _ | _ | _ | _ | _ | _ | _ | _ | i
                  rotate_right
                  · omega
                  all_goals obtain rfl := Option.some.inj ho
                  all_goals intro D V ρ wi hE hI hDi hT hF hs hd hk
                  · have e5 : ρ (.tmp 5) = .pointer (some ⟨b, 0, none⟩) := hs 5; clear hT hF hk
                    exact Reg.Gives.value (v := .pointer (some ⟨b, 0, none⟩)) (w' := wi) (by go_simp) ⟨fun x h => Option.some.inj h, hI⟩
                  · have e9 : ρ (.tmp 9) = .pointer (some ⟨gb, 0, none⟩) := hs 9; clear hT hF hk
                    exact Reg.Gives.value (v := .pointer (some ⟨gb, 1, none⟩)) (w' := wi) (by go_simp) ⟨fun x h => Option.some.inj h, hI⟩
                  · have e85 : ρ (.tmp 85) = .pointer (some ⟨gb, 1, none⟩) := (hd 1 85).trans (hk 1 _ rfl); clear hT hF; have y1 := hI.box.cell HV.out.1
                    exact Reg.Gives.value (v := .int .i64 oa) (w' := wi) (by go_simp) ⟨fun x h => Option.some.inj h, hI⟩
                  · have e84 : ρ (.tmp 84) = .pointer (some ⟨b, 0, none⟩) := (hd 0 84).trans (hk 0 _ rfl); have e86 : ρ (.tmp 86) = .int .i64 oa := (hd 2 86).trans (hk 2 _ rfl); have hf := hE.func; have hD3 : D 3 = false := hDi; clear hT hF
                    have h1 : Two w1.heap.size w1 wi b m rb gb vs F N (cond (D 7) R1 R) u := by rw [hD3] at hI; exact hI
                    refine Reg.Gives.call (f := 16) (args := #[.pointer (some ⟨b, 0, none⟩), .int .i64 oa]) (w' := wi) (by go_simp) ?_
                    refine (HCN.out wi _ h1).mono ?_
                    rintro e w'' ⟨rfl, hn, _⟩
                    exact ⟨_, rfl, fun x h => Option.some.inj h, by show Two w1.heap.size w1 w'' b m rb gb vs F (cond true N1 N) (cond (D 7) R1 R) u; exact hn⟩
                  · have e7 : ρ (.tmp 7) = .pointer (some ⟨rb, 0, none⟩) := hs 7; clear hT hF hk
                    exact Reg.Gives.value (v := .pointer (some ⟨rb, 0, none⟩)) (w' := wi) (by go_simp) ⟨fun x h => Option.some.inj h, hI⟩
                  · have e9 : ρ (.tmp 9) = .pointer (some ⟨gb, 0, none⟩) := hs 9; clear hT hF hk
                    exact Reg.Gives.value (v := .pointer (some ⟨gb, 1, none⟩)) (w' := wi) (by go_simp) ⟨fun x h => Option.some.inj h, hI⟩
                  · have e89 : ρ (.tmp 89) = .pointer (some ⟨gb, 1, none⟩) := (hd 5 89).trans (hk 5 _ rfl); clear hT hF; have y1 := hI.box.cell HV.out.1
                    exact Reg.Gives.value (v := .int .i64 oa) (w' := wi) (by go_simp) ⟨fun x h => Option.some.inj h, hI⟩
                  · have e88 : ρ (.tmp 88) = .pointer (some ⟨rb, 0, none⟩) := (hd 4 88).trans (hk 4 _ rfl); have e90 : ρ (.tmp 90) = .int .i64 oa := (hd 6 90).trans (hk 6 _ rfl); have hf := hE.func; have hD7 : D 7 = false := hDi; clear hT hF
                    have h1 : Two w1.heap.size w1 wi b m rb gb vs F (cond (D 3) N1 N) R u := by rw [hD7] at hI; exact hI
                    refine Reg.Gives.call (f := 17) (args := #[.pointer (some ⟨rb, 0, none⟩), .int .i64 oa]) (w' := wi) (by go_simp) ?_
                    refine (HCR.out wi _ h1).mono ?_
                    rintro e w'' ⟨rfl, hn, _⟩
                    exact ⟨_, rfl, fun x h => Option.some.inj h, by show Two w1.heap.size w1 w'' b m rb gb vs F (cond (D 3) N1 N) (cond true R1 R) u; exact hn⟩
                  · have e87 : ρ (.tmp 87) = .int .i64 z := (hd 3 87).trans (hk 3 _ rfl); clear hT hF hk
                    exact Reg.Gives.value (v := .int .i64 z) (w' := wi) (by go_simp) ⟨fun x h => Option.some.inj h, hI⟩
                  · have e91 : ρ (.tmp 91) = .int .i64 z := (hd 7 91).trans (hk 7 _ rfl); clear hT hF hk
                    exact Reg.Gives.value (v := .int .i64 z) (w' := wi) (by go_simp) ⟨fun x h => Option.some.inj h, hI⟩
                · intro V wf hk hI
                  have hV8 : V 8 = .int .i64 z := hk 8 (by show _ < 10; decide) _ rfl
                  have hV9 : V 9 = .int .i64 z := hk 9 (by show _ < 10; decide) _ rfl
                  simp only [Reg.putsO, List.foldl_cons, List.foldl_nil, Act.put, List.setIfInBounds_toArray, List.set_cons_succ, List.set_cons_zero, hV8, hV9]
                  replace hI : Two w1.heap.size w1 wf b m rb gb vs F (cond true N1 N) (cond true R1 R) u := hI
                  clear hk hV8 hV9
                  have HT2 : Hid (Two w1.heap.size w1 wf b m rb gb vs F N1 R1 u) := Lib.hid hI
                  clear hI
                  go_wp2_with fail
                  go_meet
                  case rel => exact ⟨N1, R1, z, rfl, rfl, HAL2, HT2⟩
              · by_cases k3 : ok = 3
                · subst k3
                  obtain ⟨zz, hzz⟩ : ∃ X, (if betw N.nodes oa ob then (0 : Int) else 1) = X := ⟨_, rfl⟩
                  have ha1 := HAL.out.set oa ob true
                  have hnd2 := HAL.out.nodes
                  have hcn : ∀ (wi : World) (R' : Rf), Two w1.heap.size w1 wi b m rb gb vs F N R' u → Calls Try.prog 18 #[.pointer (some ⟨b, 0, none⟩), .int .i64 oa, .int .i64 ob] wi fun e w' => e = .returned (.int .i64 (if betw N.nodes oa ob then 0 else 1)) ∧ Two w1.heap.size w1 w' b m rb gb vs F (if betw N.nodes oa ob then setCut N oa ob true else N) R' u ∧ Only (fun j => ¬ F j) wi w' := fun wi R' h1 => h1.callN fun A c hn => Cut_any hn oa ob
                  have hcr : ∀ (wi : World) (N' : Nt), Two w1.heap.size w1 wi b m rb gb vs F N' R u → Calls Try.prog 19 #[.pointer (some ⟨rb, 0, none⟩), .int .i64 oa, .int .i64 ob, .bool true] wi fun e w' => e = .returned (.int .i64 (if betw R.nodes oa ob then 0 else 1)) ∧ Two w1.heap.size w1 w' b m rb gb vs F N' (if betw R.nodes oa ob then setR R oa ob true else R) u ∧ Only (fun j => ¬ F j) wi w' := fun wi N' h1 => h1.callR (by have h2 := set_few R oa ob true; have h3 := HFW.out; have h4 := HU.out; omega) fun A2 ac C cc hr => Set_any hr oa ob true h1.big (by have h3 := HFW.out; have h4 := HTT.out; omega)
                  obtain ⟨N1, hN1⟩ : ∃ X, (if betw N.nodes oa ob then setCut N oa ob true else N) = X := ⟨_, rfl⟩
                  obtain ⟨R1, hR1⟩ : ∃ X, (if betw R.nodes oa ob then setR R oa ob true else R) = X := ⟨_, rfl⟩
                  rw [hN1] at hcn
                  rw [hR1, ← hnd2] at hcr
                  rw [hN1, hR1] at ha1
                  rw [hzz] at hcn hcr
                  have HCN := Lib.hid hcn
                  have HCR := Lib.hid hcr
                  have HAL2 := Lib.hid ha1
                  clear hcn hcr ha1 hN1 hR1 hzz hnd2
                  obtain ⟨z, hz⟩ : ∃ z, z = zz := ⟨_, rfl⟩
                  subst hz
                  go_upto_region 28 with (fail)
                  clear y0
                  refine Reg.region_inv (by kernel_rfl) (fun i => ([some (.pointer (some ⟨b, 0, none⟩)), some (.pointer (some ⟨gb, 1, none⟩)), some (.int .i64 oa), some (.pointer (some ⟨gb, 2, none⟩)), some (.int .i64 ob), some (.int .i64 z), some (.pointer (some ⟨rb, 0, none⟩)), some (.pointer (some ⟨gb, 1, none⟩)), some (.int .i64 oa), some (.pointer (some ⟨gb, 2, none⟩)), some (.int .i64 ob), some (.int .i64 z), some (.int .i64 z), some (.int .i64 z)] : List (Option Value)).getD i none) (fun D V W => Two w1.heap.size w1 W b m rb gb vs F (cond (D 5) N1 N) (cond (D 11) R1 R) u) (fun V => [(some 94, V 0), (some 95, V 1), (some 96, V 2), (some 97, V 3), (some 98, V 4), (some 99, V 5), (some 100, V 6), (some 101, V 7), (some 102, V 8), (some 103, V 9), (some 104, V 10), (some 105, V 11), (some 10, V 12), (some 11, V 13)]) (by kernel_rfl) (by kernel_rfl) (fun V => rfl) ?_ ?_ ?_
                  · intro V
                    exact HT.out.later (Below.refl _ _).drew
                  · intro i o ho
                    have hi : i < 14 := (Array.getElem?_eq_some_iff.1 ho).1
                    rcases i with _ | _ | _ | _ | _ | _ | _ | _ | _ | _ | _ | _ | _ | _ | i
                    rotate_right
                    · omega
                    all_goals obtain rfl := Option.some.inj ho
                    all_goals intro D V ρ wi hE hI hDi hT hF hs hd hk
                    · have e5 : ρ (.tmp 5) = .pointer (some ⟨b, 0, none⟩) := hs 5; clear hT hF hk
                      exact Reg.Gives.value (v := .pointer (some ⟨b, 0, none⟩)) (w' := wi) (by go_simp) ⟨fun x h => Option.some.inj h, hI⟩
                    · have e9 : ρ (.tmp 9) = .pointer (some ⟨gb, 0, none⟩) := hs 9; clear hT hF hk
                      exact Reg.Gives.value (v := .pointer (some ⟨gb, 1, none⟩)) (w' := wi) (by go_simp) ⟨fun x h => Option.some.inj h, hI⟩
                    · have e95 : ρ (.tmp 95) = .pointer (some ⟨gb, 1, none⟩) := (hd 1 95).trans (hk 1 _ rfl); clear hT hF; have y1 := hI.box.cell HV.out.1
                      exact Reg.Gives.value (v := .int .i64 oa) (w' := wi) (by go_simp) ⟨fun x h => Option.some.inj h, hI⟩
                    · have e9 : ρ (.tmp 9) = .pointer (some ⟨gb, 0, none⟩) := hs 9; clear hT hF hk
                      exact Reg.Gives.value (v := .pointer (some ⟨gb, 2, none⟩)) (w' := wi) (by go_simp) ⟨fun x h => Option.some.inj h, hI⟩
                    · have e97 : ρ (.tmp 97) = .pointer (some ⟨gb, 2, none⟩) := (hd 3 97).trans (hk 3 _ rfl); clear hT hF; have y2 := hI.box.cell HV.out.2.1
                      exact Reg.Gives.value (v := .int .i64 ob) (w' := wi) (by go_simp) ⟨fun x h => Option.some.inj h, hI⟩
                    · have e94 : ρ (.tmp 94) = .pointer (some ⟨b, 0, none⟩) := (hd 0 94).trans (hk 0 _ rfl); have e96 : ρ (.tmp 96) = .int .i64 oa := (hd 2 96).trans (hk 2 _ rfl); have e98 : ρ (.tmp 98) = .int .i64 ob := (hd 4 98).trans (hk 4 _ rfl); have hf := hE.func; have hD5 : D 5 = false := hDi; clear hT hF
                      have h1 : Two w1.heap.size w1 wi b m rb gb vs F N (cond (D 11) R1 R) u := by rw [hD5] at hI; exact hI
                      refine Reg.Gives.call (f := 18) (args := #[.pointer (some ⟨b, 0, none⟩), .int .i64 oa, .int .i64 ob]) (w' := wi) (by go_simp) ?_
                      refine (HCN.out wi _ h1).mono ?_
                      rintro e w'' ⟨rfl, hn, _⟩
                      exact ⟨_, rfl, fun x h => Option.some.inj h, by show Two w1.heap.size w1 w'' b m rb gb vs F (cond true N1 N) (cond (D 11) R1 R) u; exact hn⟩
                    · have e7 : ρ (.tmp 7) = .pointer (some ⟨rb, 0, none⟩) := hs 7; clear hT hF hk
                      exact Reg.Gives.value (v := .pointer (some ⟨rb, 0, none⟩)) (w' := wi) (by go_simp) ⟨fun x h => Option.some.inj h, hI⟩
                    · have e9 : ρ (.tmp 9) = .pointer (some ⟨gb, 0, none⟩) := hs 9; clear hT hF hk
                      exact Reg.Gives.value (v := .pointer (some ⟨gb, 1, none⟩)) (w' := wi) (by go_simp) ⟨fun x h => Option.some.inj h, hI⟩
                    · have e101 : ρ (.tmp 101) = .pointer (some ⟨gb, 1, none⟩) := (hd 7 101).trans (hk 7 _ rfl); clear hT hF; have y1 := hI.box.cell HV.out.1
                      exact Reg.Gives.value (v := .int .i64 oa) (w' := wi) (by go_simp) ⟨fun x h => Option.some.inj h, hI⟩
                    · have e9 : ρ (.tmp 9) = .pointer (some ⟨gb, 0, none⟩) := hs 9; clear hT hF hk
                      exact Reg.Gives.value (v := .pointer (some ⟨gb, 2, none⟩)) (w' := wi) (by go_simp) ⟨fun x h => Option.some.inj h, hI⟩
                    · have e103 : ρ (.tmp 103) = .pointer (some ⟨gb, 2, none⟩) := (hd 9 103).trans (hk 9 _ rfl); clear hT hF; have y2 := hI.box.cell HV.out.2.1
                      exact Reg.Gives.value (v := .int .i64 ob) (w' := wi) (by go_simp) ⟨fun x h => Option.some.inj h, hI⟩
                    · have e100 : ρ (.tmp 100) = .pointer (some ⟨rb, 0, none⟩) := (hd 6 100).trans (hk 6 _ rfl); have e102 : ρ (.tmp 102) = .int .i64 oa := (hd 8 102).trans (hk 8 _ rfl); have e104 : ρ (.tmp 104) = .int .i64 ob := (hd 10 104).trans (hk 10 _ rfl); have hc := hE.const; have hf := hE.func; have hD11 : D 11 = false := hDi; clear hT hF
                      have h1 : Two w1.heap.size w1 wi b m rb gb vs F (cond (D 5) N1 N) R u := by rw [hD11] at hI; exact hI
                      refine Reg.Gives.call (f := 19) (args := #[.pointer (some ⟨rb, 0, none⟩), .int .i64 oa, .int .i64 ob, .bool true]) (w' := wi) (by go_simp) ?_
                      refine (HCR.out wi _ h1).mono ?_
                      rintro e w'' ⟨rfl, hn, _⟩
                      exact ⟨_, rfl, fun x h => Option.some.inj h, by show Two w1.heap.size w1 w'' b m rb gb vs F (cond (D 5) N1 N) (cond true R1 R) u; exact hn⟩
                    · have e99 : ρ (.tmp 99) = .int .i64 z := (hd 5 99).trans (hk 5 _ rfl); clear hT hF hk
                      exact Reg.Gives.value (v := .int .i64 z) (w' := wi) (by go_simp) ⟨fun x h => Option.some.inj h, hI⟩
                    · have e105 : ρ (.tmp 105) = .int .i64 z := (hd 11 105).trans (hk 11 _ rfl); clear hT hF hk
                      exact Reg.Gives.value (v := .int .i64 z) (w' := wi) (by go_simp) ⟨fun x h => Option.some.inj h, hI⟩
                  · intro V wf hk hI
                    have hV12 : V 12 = .int .i64 z := hk 12 (by show _ < 14; decide) _ rfl
                    have hV13 : V 13 = .int .i64 z := hk 13 (by show _ < 14; decide) _ rfl
                    simp only [Reg.putsO, List.foldl_cons, List.foldl_nil, Act.put, List.setIfInBounds_toArray, List.set_cons_succ, List.set_cons_zero, hV12, hV13]
                    replace hI : Two w1.heap.size w1 wf b m rb gb vs F (cond true N1 N) (cond true R1 R) u := hI
                    clear hk hV12 hV13
                    have HT2 : Hid (Two w1.heap.size w1 wf b m rb gb vs F N1 R1 u) := Lib.hid hI
                    clear hI
                    go_wp2_with fail
                    go_meet
                    case rel => exact ⟨N1, R1, z, rfl, rfl, HAL2, HT2⟩
                · by_cases k4 : ok = 4
                  · subst k4
                    obtain ⟨zz, hzz⟩ : ∃ X, (if betw N.nodes oa ob then (0 : Int) else 1) = X := ⟨_, rfl⟩
                    have ha1 := HAL.out.set oa ob false
                    have hnd2 := HAL.out.nodes
                    have hcn : ∀ (wi : World) (R' : Rf), Two w1.heap.size w1 wi b m rb gb vs F N R' u → Calls Try.prog 20 #[.pointer (some ⟨b, 0, none⟩), .int .i64 oa, .int .i64 ob] wi fun e w' => e = .returned (.int .i64 (if betw N.nodes oa ob then 0 else 1)) ∧ Two w1.heap.size w1 w' b m rb gb vs F (if betw N.nodes oa ob then setCut N oa ob false else N) R' u ∧ Only (fun j => ¬ F j) wi w' := fun wi R' h1 => h1.callN fun A c hn => Heal_any hn oa ob
                    have hcr : ∀ (wi : World) (N' : Nt), Two w1.heap.size w1 wi b m rb gb vs F N' R u → Calls Try.prog 19 #[.pointer (some ⟨rb, 0, none⟩), .int .i64 oa, .int .i64 ob, .bool false] wi fun e w' => e = .returned (.int .i64 (if betw R.nodes oa ob then 0 else 1)) ∧ Two w1.heap.size w1 w' b m rb gb vs F N' (if betw R.nodes oa ob then setR R oa ob false else R) u ∧ Only (fun j => ¬ F j) wi w' := fun wi N' h1 => h1.callR (by have h2 := set_few R oa ob false; have h3 := HFW.out; have h4 := HU.out; omega) fun A2 ac C cc hr => Set_any hr oa ob false h1.big (by have h3 := HFW.out; have h4 := HTT.out; omega)
                    obtain ⟨N1, hN1⟩ : ∃ X, (if betw N.nodes oa ob then setCut N oa ob false else N) = X := ⟨_, rfl⟩
                    obtain ⟨R1, hR1⟩ : ∃ X, (if betw R.nodes oa ob then setR R oa ob false else R) = X := ⟨_, rfl⟩
                    rw [hN1] at hcn
                    rw [hR1, ← hnd2] at hcr
                    rw [hN1, hR1] at ha1
                    rw [hzz] at hcn hcr
                    have HCN := Lib.hid hcn
                    have HCR := Lib.hid hcr
                    have HAL2 := Lib.hid ha1
                    clear hcn hcr ha1 hN1 hR1 hzz hnd2
                    obtain ⟨z, hz⟩ : ∃ z, z = zz := ⟨_, rfl⟩
                    subst hz
                    go_upto_region 30 with (fail)
                    clear y0
                    refine Reg.region_inv (by kernel_rfl) (fun i => ([some (.pointer (some ⟨b, 0, none⟩)), some (.pointer (some ⟨gb, 1, none⟩)), some (.int .i64 oa), some (.pointer (some ⟨gb, 2, none⟩)), some (.int .i64 ob), some (.int .i64 z), some (.pointer (some ⟨rb, 0, none⟩)), some (.pointer (some ⟨gb, 1, none⟩)), some (.int .i64 oa), some (.pointer (some ⟨gb, 2, none⟩)), some (.int .i64 ob), some (.int .i64 z), some (.int .i64 z), some (.int .i64 z)] : List (Option Value)).getD i none) (fun D V W => Two w1.heap.size w1 W b m rb gb vs F (cond (D 5) N1 N) (cond (D 11) R1 R) u) (fun V => [(some 108, V 0), (some 109, V 1), (some 110, V 2), (some 111, V 3), (some 112, V 4), (some 113, V 5), (some 114, V 6), (some 115, V 7), (some 116, V 8), (some 117, V 9), (some 118, V 10), (some 119, V 11), (some 10, V 12), (some 11, V 13)]) (by kernel_rfl) (by kernel_rfl) (fun V => rfl) ?_ ?_ ?_
                    · intro V
                      exact HT.out.later (Below.refl _ _).drew
                    · intro i o ho
                      have hi : i < 14 := (Array.getElem?_eq_some_iff.1 ho).1
                      rcases i with _ | _ | _ | _ | _ | _ | _ | _ | _ | _ | _ | _ | _ | _ | i
                      rotate_right
                      · omega
                      all_goals obtain rfl := Option.some.inj ho
                      all_goals intro D V ρ wi hE hI hDi hT hF hs hd hk
                      · have e5 : ρ (.tmp 5) = .pointer (some ⟨b, 0, none⟩) := hs 5; clear hT hF hk
                        exact Reg.Gives.value (v := .pointer (some ⟨b, 0, none⟩)) (w' := wi) (by go_simp) ⟨fun x h => Option.some.inj h, hI⟩
                      · have e9 : ρ (.tmp 9) = .pointer (some ⟨gb, 0, none⟩) := hs 9; clear hT hF hk
                        exact Reg.Gives.value (v := .pointer (some ⟨gb, 1, none⟩)) (w' := wi) (by go_simp) ⟨fun x h => Option.some.inj h, hI⟩
                      · have e109 : ρ (.tmp 109) = .pointer (some ⟨gb, 1, none⟩) := (hd 1 109).trans (hk 1 _ rfl); clear hT hF; have y1 := hI.box.cell HV.out.1
                        exact Reg.Gives.value (v := .int .i64 oa) (w' := wi) (by go_simp) ⟨fun x h => Option.some.inj h, hI⟩
                      · have e9 : ρ (.tmp 9) = .pointer (some ⟨gb, 0, none⟩) := hs 9; clear hT hF hk
                        exact Reg.Gives.value (v := .pointer (some ⟨gb, 2, none⟩)) (w' := wi) (by go_simp) ⟨fun x h => Option.some.inj h, hI⟩
                      · have e111 : ρ (.tmp 111) = .pointer (some ⟨gb, 2, none⟩) := (hd 3 111).trans (hk 3 _ rfl); clear hT hF; have y2 := hI.box.cell HV.out.2.1
                        exact Reg.Gives.value (v := .int .i64 ob) (w' := wi) (by go_simp) ⟨fun x h => Option.some.inj h, hI⟩
                      · have e108 : ρ (.tmp 108) = .pointer (some ⟨b, 0, none⟩) := (hd 0 108).trans (hk 0 _ rfl); have e110 : ρ (.tmp 110) = .int .i64 oa := (hd 2 110).trans (hk 2 _ rfl); have e112 : ρ (.tmp 112) = .int .i64 ob := (hd 4 112).trans (hk 4 _ rfl); have hf := hE.func; have hD5 : D 5 = false := hDi; clear hT hF
                        have h1 : Two w1.heap.size w1 wi b m rb gb vs F N (cond (D 11) R1 R) u := by rw [hD5] at hI; exact hI
                        refine Reg.Gives.call (f := 20) (args := #[.pointer (some ⟨b, 0, none⟩), .int .i64 oa, .int .i64 ob]) (w' := wi) (by go_simp) ?_
                        refine (HCN.out wi _ h1).mono ?_
                        rintro e w'' ⟨rfl, hn, _⟩
                        exact ⟨_, rfl, fun x h => Option.some.inj h, by show Two w1.heap.size w1 w'' b m rb gb vs F (cond true N1 N) (cond (D 11) R1 R) u; exact hn⟩
                      · have e7 : ρ (.tmp 7) = .pointer (some ⟨rb, 0, none⟩) := hs 7; clear hT hF hk
                        exact Reg.Gives.value (v := .pointer (some ⟨rb, 0, none⟩)) (w' := wi) (by go_simp) ⟨fun x h => Option.some.inj h, hI⟩
                      · have e9 : ρ (.tmp 9) = .pointer (some ⟨gb, 0, none⟩) := hs 9; clear hT hF hk
                        exact Reg.Gives.value (v := .pointer (some ⟨gb, 1, none⟩)) (w' := wi) (by go_simp) ⟨fun x h => Option.some.inj h, hI⟩
                      · have e115 : ρ (.tmp 115) = .pointer (some ⟨gb, 1, none⟩) := (hd 7 115).trans (hk 7 _ rfl); clear hT hF; have y1 := hI.box.cell HV.out.1
                        exact Reg.Gives.value (v := .int .i64 oa) (w' := wi) (by go_simp) ⟨fun x h => Option.some.inj h, hI⟩
                      · have e9 : ρ (.tmp 9) = .pointer (some ⟨gb, 0, none⟩) := hs 9; clear hT hF hk
                        exact Reg.Gives.value (v := .pointer (some ⟨gb, 2, none⟩)) (w' := wi) (by go_simp) ⟨fun x h => Option.some.inj h, hI⟩
                      · have e117 : ρ (.tmp 117) = .pointer (some ⟨gb, 2, none⟩) := (hd 9 117).trans (hk 9 _ rfl); clear hT hF; have y2 := hI.box.cell HV.out.2.1
                        exact Reg.Gives.value (v := .int .i64 ob) (w' := wi) (by go_simp) ⟨fun x h => Option.some.inj h, hI⟩
                      · have e114 : ρ (.tmp 114) = .pointer (some ⟨rb, 0, none⟩) := (hd 6 114).trans (hk 6 _ rfl); have e116 : ρ (.tmp 116) = .int .i64 oa := (hd 8 116).trans (hk 8 _ rfl); have e118 : ρ (.tmp 118) = .int .i64 ob := (hd 10 118).trans (hk 10 _ rfl); have hc := hE.const; have hf := hE.func; have hD11 : D 11 = false := hDi; clear hT hF
                        have h1 : Two w1.heap.size w1 wi b m rb gb vs F (cond (D 5) N1 N) R u := by rw [hD11] at hI; exact hI
                        refine Reg.Gives.call (f := 19) (args := #[.pointer (some ⟨rb, 0, none⟩), .int .i64 oa, .int .i64 ob, .bool false]) (w' := wi) (by go_simp) ?_
                        refine (HCR.out wi _ h1).mono ?_
                        rintro e w'' ⟨rfl, hn, _⟩
                        exact ⟨_, rfl, fun x h => Option.some.inj h, by show Two w1.heap.size w1 w'' b m rb gb vs F (cond (D 5) N1 N) (cond true R1 R) u; exact hn⟩
                      · have e113 : ρ (.tmp 113) = .int .i64 z := (hd 5 113).trans (hk 5 _ rfl); clear hT hF hk
                        exact Reg.Gives.value (v := .int .i64 z) (w' := wi) (by go_simp) ⟨fun x h => Option.some.inj h, hI⟩
                      · have e119 : ρ (.tmp 119) = .int .i64 z := (hd 11 119).trans (hk 11 _ rfl); clear hT hF hk
                        exact Reg.Gives.value (v := .int .i64 z) (w' := wi) (by go_simp) ⟨fun x h => Option.some.inj h, hI⟩
                    · intro V wf hk hI
                      have hV12 : V 12 = .int .i64 z := hk 12 (by show _ < 14; decide) _ rfl
                      have hV13 : V 13 = .int .i64 z := hk 13 (by show _ < 14; decide) _ rfl
                      simp only [Reg.putsO, List.foldl_cons, List.foldl_nil, Act.put, List.setIfInBounds_toArray, List.set_cons_succ, List.set_cons_zero, hV12, hV13]
                      replace hI : Two w1.heap.size w1 wf b m rb gb vs F (cond true N1 N) (cond true R1 R) u := hI
                      clear hk hV12 hV13
                      have HT2 : Hid (Two w1.heap.size w1 wf b m rb gb vs F N1 R1 u) := Lib.hid hI
                      clear hI
                      go_wp2_with fail
                      go_meet
                      case rel => exact ⟨N1, R1, z, rfl, rfl, HAL2, HT2⟩
                  · by_cases k5 : ok = 5
                    · subst k5
                      have hc := HT.out.callN (N' := { N with cut := fun _ _ => false }) (Q := fun e => e = .returned (.tuple #[])) (fun A c hn => HealAll_any hn)
                      have HC := Lib.hid hc
                      have HAL2 := Lib.hid HAL.out.heal
                      obtain ⟨N1, hN1⟩ : ∃ X, ({ N with cut := fun _ _ => false } : Nt) = X := ⟨_, rfl⟩
                      rw [hN1] at HC HAL2
                      clear hc hN1
                      go_wp2_with fail
                      refine HC.out.mono ?_
                      rintro e wx ⟨rfl, hn, _⟩
                      obtain ⟨hh, hf, v0, hv0⟩ := hn.heal
                      have HT2 := Lib.hid hh
                      clear hn hh HC y0
                      go_wp2_with fail
                      go_meet
                      case rel => exact ⟨N1, _, 0, rfl, rfl, HAL2, HT2⟩
                    · by_cases k6 : ok = 6
                      · subst k6
                        obtain ⟨xo, hxo⟩ : ∃ X, bits .xor .i64 oa ob = X := ⟨_, rfl⟩
                        obtain ⟨y, hyo⟩ : ∃ X, IntKind.u8.wrap xo = X := ⟨_, rfl⟩
                        have HXO := Lib.hid hxo
                        have HYO := Lib.hid hyo
                        obtain ⟨ha2, ha1⟩ := HAL.out.spoil oa ob y
                        have hpk : ∀ p ∈ R.fl, p.bytes.size ≤ 140737488351232 := fun p hp => by
                          obtain ⟨A5, c5, h5⟩ := HT.out.net
                          exact (h5.pks p (by rw [HAL.out.fl]; exact hp)).len
                        have hcn : ∀ (wi : World) (R' : Rf), Two w1.heap.size w1 wi b m rb gb vs F N R' u → Calls Try.prog 22 #[.pointer (some ⟨b, 0, none⟩), .int .i64 oa, .int .i64 ob, .int .u8 y] wi fun e w' => e = .returned (.int .i64 (spoilN N oa ob y).1) ∧ Two w1.heap.size w1 w' b m rb gb vs F (spoilN N oa ob y).2 R' u ∧ Only (fun j => ¬ F j) wi w' := fun wi R' h1 => h1.callN fun A c hn => Spoil_any hn oa ob y
                        have hcr : ∀ (wi : World) (N' : Nt), Two w1.heap.size w1 wi b m rb gb vs F N' R u → Calls Try.prog 23 #[.pointer (some ⟨rb, 0, none⟩), .int .i64 oa, .int .i64 ob, .int .u8 y] wi fun e w' => e = .returned (.int .i64 (spoilR R oa ob y).1) ∧ Two w1.heap.size w1 w' b m rb gb vs F N' (spoilR R oa ob y).2 u ∧ Only (fun j => ¬ F j) wi w' := fun wi N' h1 => h1.callR (by rw [spoilR_cs]; exact h1.few) fun A2 ac C cc hr => RSpoil_any hr oa ob y h1.big hpk
                        rw [← ha2] at hcr
                        obtain ⟨N1, hN1⟩ : ∃ X, (spoilN N oa ob y).2 = X := ⟨_, rfl⟩
                        obtain ⟨R1, hR1⟩ : ∃ X, (spoilR R oa ob y).2 = X := ⟨_, rfl⟩
                        obtain ⟨z, hz⟩ : ∃ X, (spoilN N oa ob y).1 = X := ⟨_, rfl⟩
                        rw [hN1, hz] at hcn
                        rw [hR1, hz] at hcr
                        rw [hN1, hR1] at ha1
                        have HCN := Lib.hid hcn
                        have HCR := Lib.hid hcr
                        have HAL2 := Lib.hid ha1
                        clear hcn hcr ha1 ha2 hN1 hR1 hz hpk hxo hyo
                        go_upto_region 35 with (fail)
                        clear y0
                        refine Reg.region_inv (by kernel_rfl) (fun i => ([some (.pointer (some ⟨b, 0, none⟩)), some (.pointer (some ⟨gb, 1, none⟩)), some (.int .i64 oa), some (.pointer (some ⟨gb, 2, none⟩)), some (.int .i64 ob), some (.pointer (some ⟨gb, 1, none⟩)), some (.int .i64 oa), some (.pointer (some ⟨gb, 2, none⟩)), some (.int .i64 ob), some (.int .i64 xo), some (.int .u8 y), some (.int .i64 z), some (.pointer (some ⟨rb, 0, none⟩)), some (.pointer (some ⟨gb, 1, none⟩)), some (.int .i64 oa), some (.pointer (some ⟨gb, 2, none⟩)), some (.int .i64 ob), some (.pointer (some ⟨gb, 1, none⟩)), some (.int .i64 oa), some (.pointer (some ⟨gb, 2, none⟩)), some (.int .i64 ob), some (.int .i64 xo), some (.int .u8 y), some (.int .i64 z), some (.int .i64 z), some (.int .i64 z)] : List (Option Value)).getD i none) (fun D V W => Two w1.heap.size w1 W b m rb gb vs F (cond (D 11) N1 N) (cond (D 23) R1 R) u) (fun V => [(some 129, V 0), (some 130, V 1), (some 131, V 2), (some 132, V 3), (some 133, V 4), (some 134, V 5), (some 135, V 6), (some 136, V 7), (some 137, V 8), (some 138, V 9), (some 139, V 10), (some 140, V 11), (some 141, V 12), (some 142, V 13), (some 143, V 14), (some 144, V 15), (some 145, V 16), (some 146, V 17), (some 147, V 18), (some 148, V 19), (some 149, V 20), (some 150, V 21), (some 151, V 22), (some 152, V 23), (some 10, V 24), (some 11, V 25)]) (by kernel_rfl) (by kernel_rfl) (fun V => rfl) ?_ ?_ ?_
                        · intro V
                          exact HT.out.later (Below.refl _ _).drew
                        · intro i o ho
                          have hi : i < 26 := (Array.getElem?_eq_some_iff.1 ho).1
                          rcases i with _ | _ | _ | _ | _ | _ | _ | _ | _ | _ | _ | _ | _ | _ | _ | _ | _ | _ | _ | _ | _ | _ | _ | _ | _ | _ | i
                          rotate_right
                          · omega
                          all_goals obtain rfl := Option.some.inj ho
                          all_goals intro D V ρ wi hE hI hDi hT hF hs hd hk
                          · have e5 : ρ (.tmp 5) = .pointer (some ⟨b, 0, none⟩) := hs 5; clear hT hF hk
                            exact Reg.Gives.value (v := .pointer (some ⟨b, 0, none⟩)) (w' := wi) (by go_simp) ⟨fun x h => Option.some.inj h, hI⟩
                          · have e9 : ρ (.tmp 9) = .pointer (some ⟨gb, 0, none⟩) := hs 9; clear hT hF hk
                            exact Reg.Gives.value (v := .pointer (some ⟨gb, 1, none⟩)) (w' := wi) (by go_simp) ⟨fun x h => Option.some.inj h, hI⟩
                          · have e130 : ρ (.tmp 130) = .pointer (some ⟨gb, 1, none⟩) := (hd 1 130).trans (hk 1 _ rfl); clear hT hF; have y1 := hI.box.cell HV.out.1
                            exact Reg.Gives.value (v := .int .i64 oa) (w' := wi) (by go_simp) ⟨fun x h => Option.some.inj h, hI⟩
                          · have e9 : ρ (.tmp 9) = .pointer (some ⟨gb, 0, none⟩) := hs 9; clear hT hF hk
                            exact Reg.Gives.value (v := .pointer (some ⟨gb, 2, none⟩)) (w' := wi) (by go_simp) ⟨fun x h => Option.some.inj h, hI⟩
                          · have e132 : ρ (.tmp 132) = .pointer (some ⟨gb, 2, none⟩) := (hd 3 132).trans (hk 3 _ rfl); clear hT hF; have y2 := hI.box.cell HV.out.2.1
                            exact Reg.Gives.value (v := .int .i64 ob) (w' := wi) (by go_simp) ⟨fun x h => Option.some.inj h, hI⟩
                          · have e9 : ρ (.tmp 9) = .pointer (some ⟨gb, 0, none⟩) := hs 9; clear hT hF hk
                            exact Reg.Gives.value (v := .pointer (some ⟨gb, 1, none⟩)) (w' := wi) (by go_simp) ⟨fun x h => Option.some.inj h, hI⟩
                          · have e134 : ρ (.tmp 134) = .pointer (some ⟨gb, 1, none⟩) := (hd 5 134).trans (hk 5 _ rfl); clear hT hF; have y1 := hI.box.cell HV.out.1
                            exact Reg.Gives.value (v := .int .i64 oa) (w' := wi) (by go_simp) ⟨fun x h => Option.some.inj h, hI⟩
                          · have e9 : ρ (.tmp 9) = .pointer (some ⟨gb, 0, none⟩) := hs 9; clear hT hF hk
                            exact Reg.Gives.value (v := .pointer (some ⟨gb, 2, none⟩)) (w' := wi) (by go_simp) ⟨fun x h => Option.some.inj h, hI⟩
                          · have e136 : ρ (.tmp 136) = .pointer (some ⟨gb, 2, none⟩) := (hd 7 136).trans (hk 7 _ rfl); clear hT hF; have y2 := hI.box.cell HV.out.2.1
                            exact Reg.Gives.value (v := .int .i64 ob) (w' := wi) (by go_simp) ⟨fun x h => Option.some.inj h, hI⟩
                          · have e135 : ρ (.tmp 135) = .int .i64 oa := (hd 6 135).trans (hk 6 _ rfl); have e137 : ρ (.tmp 137) = .int .i64 ob := (hd 8 137).trans (hk 8 _ rfl); clear hT hF; have hx := HXO.out
                            exact Reg.Gives.value (v := .int .i64 xo) (w' := wi) (by go_simp) ⟨fun x h => Option.some.inj h, hI⟩
                          · have e138 : ρ (.tmp 138) = .int .i64 xo := (hd 9 138).trans (hk 9 _ rfl); clear hT hF; have hy := HYO.out
                            exact Reg.Gives.value (v := .int .u8 y) (w' := wi) (by go_simp) ⟨fun x h => Option.some.inj h, hI⟩
                          · have e129 : ρ (.tmp 129) = .pointer (some ⟨b, 0, none⟩) := (hd 0 129).trans (hk 0 _ rfl); have e131 : ρ (.tmp 131) = .int .i64 oa := (hd 2 131).trans (hk 2 _ rfl); have e133 : ρ (.tmp 133) = .int .i64 ob := (hd 4 133).trans (hk 4 _ rfl); have e139 : ρ (.tmp 139) = .int .u8 y := (hd 10 139).trans (hk 10 _ rfl); have hf := hE.func; have hD11 : D 11 = false := hDi
                            clear hT hF
                            have h1 : Two w1.heap.size w1 wi b m rb gb vs F N (cond (D 23) R1 R) u := by rw [hD11] at hI; exact hI
                            refine Reg.Gives.call (f := 22) (args := #[.pointer (some ⟨b, 0, none⟩), .int .i64 oa, .int .i64 ob, .int .u8 y]) (w' := wi) (by go_simp) ?_
                            refine (HCN.out wi _ h1).mono ?_
                            rintro e w'' ⟨rfl, hn, _⟩
                            exact ⟨_, rfl, fun x h => Option.some.inj h, by show Two w1.heap.size w1 w'' b m rb gb vs F (cond true N1 N) (cond (D 23) R1 R) u; exact hn⟩
                          · have e7 : ρ (.tmp 7) = .pointer (some ⟨rb, 0, none⟩) := hs 7; clear hT hF hk
                            exact Reg.Gives.value (v := .pointer (some ⟨rb, 0, none⟩)) (w' := wi) (by go_simp) ⟨fun x h => Option.some.inj h, hI⟩
                          · have e9 : ρ (.tmp 9) = .pointer (some ⟨gb, 0, none⟩) := hs 9; clear hT hF hk
                            exact Reg.Gives.value (v := .pointer (some ⟨gb, 1, none⟩)) (w' := wi) (by go_simp) ⟨fun x h => Option.some.inj h, hI⟩
                          · have e142 : ρ (.tmp 142) = .pointer (some ⟨gb, 1, none⟩) := (hd 13 142).trans (hk 13 _ rfl); clear hT hF; have y1 := hI.box.cell HV.out.1
                            exact Reg.Gives.value (v := .int .i64 oa) (w' := wi) (by go_simp) ⟨fun x h => Option.some.inj h, hI⟩
                          · have e9 : ρ (.tmp 9) = .pointer (some ⟨gb, 0, none⟩) := hs 9; clear hT hF hk
                            exact Reg.Gives.value (v := .pointer (some ⟨gb, 2, none⟩)) (w' := wi) (by go_simp) ⟨fun x h => Option.some.inj h, hI⟩
                          · have e144 : ρ (.tmp 144) = .pointer (some ⟨gb, 2, none⟩) := (hd 15 144).trans (hk 15 _ rfl); clear hT hF; have y2 := hI.box.cell HV.out.2.1
                            exact Reg.Gives.value (v := .int .i64 ob) (w' := wi) (by go_simp) ⟨fun x h => Option.some.inj h, hI⟩
                          · have e9 : ρ (.tmp 9) = .pointer (some ⟨gb, 0, none⟩) := hs 9; clear hT hF hk
                            exact Reg.Gives.value (v := .pointer (some ⟨gb, 1, none⟩)) (w' := wi) (by go_simp) ⟨fun x h => Option.some.inj h, hI⟩
                          · have e146 : ρ (.tmp 146) = .pointer (some ⟨gb, 1, none⟩) := (hd 17 146).trans (hk 17 _ rfl); clear hT hF; have y1 := hI.box.cell HV.out.1
                            exact Reg.Gives.value (v := .int .i64 oa) (w' := wi) (by go_simp) ⟨fun x h => Option.some.inj h, hI⟩
                          · have e9 : ρ (.tmp 9) = .pointer (some ⟨gb, 0, none⟩) := hs 9; clear hT hF hk
                            exact Reg.Gives.value (v := .pointer (some ⟨gb, 2, none⟩)) (w' := wi) (by go_simp) ⟨fun x h => Option.some.inj h, hI⟩
                          · have e148 : ρ (.tmp 148) = .pointer (some ⟨gb, 2, none⟩) := (hd 19 148).trans (hk 19 _ rfl); clear hT hF; have y2 := hI.box.cell HV.out.2.1
                            exact Reg.Gives.value (v := .int .i64 ob) (w' := wi) (by go_simp) ⟨fun x h => Option.some.inj h, hI⟩
                          · have e147 : ρ (.tmp 147) = .int .i64 oa := (hd 18 147).trans (hk 18 _ rfl); have e149 : ρ (.tmp 149) = .int .i64 ob := (hd 20 149).trans (hk 20 _ rfl); clear hT hF; have hx := HXO.out
                            exact Reg.Gives.value (v := .int .i64 xo) (w' := wi) (by go_simp) ⟨fun x h => Option.some.inj h, hI⟩
                          · have e150 : ρ (.tmp 150) = .int .i64 xo := (hd 21 150).trans (hk 21 _ rfl); clear hT hF; have hy := HYO.out
                            exact Reg.Gives.value (v := .int .u8 y) (w' := wi) (by go_simp) ⟨fun x h => Option.some.inj h, hI⟩
                          · have e141 : ρ (.tmp 141) = .pointer (some ⟨rb, 0, none⟩) := (hd 12 141).trans (hk 12 _ rfl); have e143 : ρ (.tmp 143) = .int .i64 oa := (hd 14 143).trans (hk 14 _ rfl); have e145 : ρ (.tmp 145) = .int .i64 ob := (hd 16 145).trans (hk 16 _ rfl); have e151 : ρ (.tmp 151) = .int .u8 y := (hd 22 151).trans (hk 22 _ rfl); have hf := hE.func; have hD23 : D 23 = false := hDi
                            clear hT hF
                            have h1 : Two w1.heap.size w1 wi b m rb gb vs F (cond (D 11) N1 N) R u := by rw [hD23] at hI; exact hI
                            refine Reg.Gives.call (f := 23) (args := #[.pointer (some ⟨rb, 0, none⟩), .int .i64 oa, .int .i64 ob, .int .u8 y]) (w' := wi) (by go_simp) ?_
                            refine (HCR.out wi _ h1).mono ?_
                            rintro e w'' ⟨rfl, hn, _⟩
                            exact ⟨_, rfl, fun x h => Option.some.inj h, by show Two w1.heap.size w1 w'' b m rb gb vs F (cond (D 11) N1 N) (cond true R1 R) u; exact hn⟩
                          · have e140 : ρ (.tmp 140) = .int .i64 z := (hd 11 140).trans (hk 11 _ rfl); clear hT hF hk
                            exact Reg.Gives.value (v := .int .i64 z) (w' := wi) (by go_simp) ⟨fun x h => Option.some.inj h, hI⟩
                          · have e152 : ρ (.tmp 152) = .int .i64 z := (hd 23 152).trans (hk 23 _ rfl); clear hT hF hk
                            exact Reg.Gives.value (v := .int .i64 z) (w' := wi) (by go_simp) ⟨fun x h => Option.some.inj h, hI⟩
                        · intro V wf hk hI
                          have hV24 : V 24 = .int .i64 z := hk 24 (by show _ < 26; decide) _ rfl
                          have hV25 : V 25 = .int .i64 z := hk 25 (by show _ < 26; decide) _ rfl
                          simp only [Reg.putsO, List.foldl_cons, List.foldl_nil, Act.put, List.setIfInBounds_toArray, List.set_cons_succ, List.set_cons_zero, hV24, hV25]
                          replace hI : Two w1.heap.size w1 wf b m rb gb vs F (cond true N1 N) (cond true R1 R) u := hI
                          clear hk hV24 hV25
                          have HT2 : Hid (Two w1.heap.size w1 wf b m rb gb vs F N1 R1 u) := Lib.hid hI
                          clear hI
                          go_wp2_with fail
                          go_meet
                          case rel => exact ⟨N1, R1, z, rfl, rfl, HAL2, HT2⟩
                      · have e0 : decide (ok = 0) = false := by simpa using k0
                        have e1 : decide (ok = 1) = false := by simpa using k1
                        have e2 : decide (ok = 2) = false := by simpa using k2
                        have e3 : decide (ok = 3) = false := by simpa using k3
                        have e4 : decide (ok = 4) = false := by simpa using k4
                        have e5 : decide (ok = 5) = false := by simpa using k5
                        have e6 : decide (ok = 6) = false := by simpa using k6
                        clear y0
                        go_wp2_with fail
                        go_meet
                        case rel => exact ⟨N, R, 0, rfl, rfl, HAL, HT⟩
        case rest =>
          obtain ⟨N', R', z, rfl, rfl, HAL2, HT2⟩ := hcut
          obtain ⟨A4, c4, hn4⟩ := HT2.out.net
          obtain ⟨RA, ac, C5, cc5, hr5⟩ := HT2.out.ref
          have hfl := HAL2.out.fl
          obtain ⟨sl, hsl⟩ : ∃ X, N'.fl = X := ⟨_, rfl⟩
          obtain ⟨q, hq⟩ : ∃ X, sl.length = X := ⟨_, rfl⟩
          have hq5 : q ≤ 256 := by rw [← hq, ← hsl]; exact hn4.len
          rw [hsl] at hfl
          obtain ⟨we2, hwe2⟩ : ∃ W, W = wc := ⟨_, rfl⟩
          subst hwe2
          have HLN : Hid (∀ wi, Below we2.heap.size we2 wi → Calls Try.prog 24 #[.pointer (some ⟨b, 0, none⟩)] wi fun e w' => e = .returned (.int .i64 (q : Int)) ∧ w' = wi) := Lib.hid fun wi hb => by
            have h1 := Len_any (hn4.later hb)
            rw [hsl, hq] at h1
            exact h1
          have HALL : Hid (∀ wi, Below we2.heap.size we2 wi → Calls Try.prog 26 #[.pointer (some ⟨b, 0, none⟩)] wi fun e w' => ∃ V0 c0, e = .returned (.slice V0 q c0) ∧ Pks w' V0 sl ∧ Below wi.heap.size wi w') := Lib.hid fun wi hb => by
            refine (All_any (hn4.later hb)).mono ?_
            rintro e w' ⟨v, rfl, hrow, hb'⟩
            rw [hsl] at hrow
            obtain ⟨A', c', e, h1, _⟩ := own_sl (vs := sl.map Pk.vals) (by rw [List.length_map]; exact hrow) (fit_pks _).len
            rw [List.length_map, hq] at e
            exact ⟨A', c', by rw [e], h1, hb'⟩
          have HPLN : Hid (∀ wi V1 c1, Pks wi V1 sl → Calls Try.prog 13 #[.slice V1 q c1] wi fun e w' => ∃ V0 c0, e = .returned (.slice V0 q c0) ∧ Pks w' V0 sl ∧ Below wi.heap.size wi w') := Lib.hid fun wi V1 c1 hp => by
            have h1 := Plain_any V1 sl c1 wi hp (by omega)
            rw [hq] at h1
            refine h1.mono ?_
            rintro e w' ⟨v, rfl, hrow, hb'⟩
            obtain ⟨V0, c0, rfl⟩ := row_slice hrow
            rw [hq] at hrow ⊢
            exact ⟨V0, c0, rfl, hrow.sl.2, hb'⟩
          have HSM : Hid (∀ wi V1 c1, Below we2.heap.size we2 wi → Pks wi V1 sl → Calls Try.prog 25 #[.slice V1 q c1, .slice RA q ac] wi fun e w' => e = .returned (.bool true) ∧ Below wi.heap.size wi w') := Lib.hid fun wi V1 c1 hb hp => by
            have h2 := (hr5.later hb).sl.1
            rw [← hfl] at h2
            have h1 := Same_any V1 RA sl sl c1 ac wi hp h2 (by omega) (by omega)
            rw [hq, decide_eq_true rfl] at h1
            exact h1
          have HR1 : Hid (∀ wi, Below we2.heap.size we2 wi → wi.cell? ⟨rb, 1, none⟩ = some (.slice RA q ac)) := Lib.hid fun wi hb => by
            have h1 := (hr5.later hb).cel.cell (j := 1) rfl
            rw [← hfl, hq] at h1
            exact h1
          clear hn4 hr5 hfl hsl hq hq5
          go_upto_region 36 with (fail)
          refine Reg.region_heavy (by kernel_rfl) 23 [23] (netPl36 b rb q ac z RA sl) (fun a => Below we2.heap.size we2 a) (fun a => Below we2.heap.size we2 a) (fun V => [(some 153, V 0), (some 154, V 1), (some 155, V 2), (some 156, V 3), (some 157, V 4), (some 158, V 5), (some 159, V 6), (some 160, V 7), (some 161, V 8), (some 162, V 9), (some 163, V 10), (some 164, V 11), (some 165, V 12), (some 166, V 13), (some 167, V 14), (some 168, V 15), (some 169, V 16), (some 170, V 17), (some 171, V 18), (some 172, V 19), (some 173, V 20), (some 174, V 21), (some 175, V 22), (some 176, V 23)]) (by kernel_rfl) (by kernel_rfl) (by kernel_rfl) (fun V => rfl) ?_ ?_ ?_
          · exact (Below.refl _ _).drew
          · intro i o ho
            have hi : i < 24 := (Array.getElem?_eq_some_iff.1 ho).1
            rcases i with _ | _ | _ | _ | _ | _ | _ | _ | _ | _ | _ | _ | _ | _ | _ | _ | _ | _ | _ | _ | _ | _ | _ | _ | i
            rotate_right
            · omega
            all_goals obtain rfl := Option.some.inj ho
            all_goals intro ρ wi hE hI hs hd
            all_goals try dsimp only at hI
            · have e10 : ρ (.tmp 10) = .int .i64 z := hs 10; exact Reg.gw hI
            · have e11 : ρ (.tmp 11) = .int .i64 z := hs 11; exact Reg.gw hI
            · obtain ⟨_, rfl, e153⟩ := hd 0 153; obtain ⟨_, rfl, e154⟩ := hd 1 154
              have y1 : decide (z = z) = true := by simp
              exact Reg.gw hI
            · obtain ⟨_, rfl, e155⟩ := hd 2 155; exact Reg.gw hI
            · have e5 : ρ (.tmp 5) = .pointer (some ⟨b, 0, none⟩) := hs 5
              refine Reg.yes ?_
              exact Reg.gw hI
            · obtain ⟨_, rfl, e157⟩ := hd 4 157; have hf := hE.func
              refine Reg.yes ?_
              refine Reg.Gives.call (f := 24) (args := #[.pointer (some ⟨b, 0, none⟩)]) (w' := wi) (by go_simp) ?_
              refine (HLN.out wi hI).mono ?_
              rintro e w'' ⟨rfl, rfl⟩
              exact ⟨_, rfl, Reg.OwedH.same hI rfl⟩
            · have e7 : ρ (.tmp 7) = .pointer (some ⟨rb, 0, none⟩) := hs 7
              refine Reg.yes ?_
              exact Reg.gw hI
            · obtain ⟨_, rfl, e159⟩ := hd 6 159
              refine Reg.yes ?_
              exact Reg.gw hI
            · obtain ⟨_, rfl, e160⟩ := hd 7 160
              refine Reg.yes ?_
              exact Reg.gw hI
            · obtain ⟨_, rfl, e161⟩ := hd 8 161
              refine Reg.yes ?_
              have x0 := HR1.out _ hI; exact Reg.gw hI
            · obtain ⟨_, rfl, e162⟩ := hd 9 162
              refine Reg.yes ?_
              exact Reg.gw hI
            · obtain ⟨_, rfl, e158⟩ := hd 5 158; obtain ⟨_, rfl, e163⟩ := hd 10 163
              refine Reg.yes ?_
              have y1 : decide ((q : Int) = (q : Int)) = true := by simp
              exact Reg.gw hI
            · obtain ⟨_, rfl, e156⟩ := hd 3 156; obtain ⟨_, rfl, e164⟩ := hd 11 164; have hc := hE.const; exact Reg.gw hI
            · obtain ⟨_, rfl, e165⟩ := hd 12 165; exact Reg.gw hI
            · have e5 : ρ (.tmp 5) = .pointer (some ⟨b, 0, none⟩) := hs 5
              refine Reg.yes ?_
              exact Reg.gw hI
            · obtain ⟨_, rfl, e167⟩ := hd 14 167; have hf := hE.func
              refine Reg.yes ?_
              refine Reg.Gives.call (f := 26) (args := #[.pointer (some ⟨b, 0, none⟩)]) (w' := wi) (by go_simp) ?_
              refine (HALL.out wi hI).mono ?_
              rintro e w'' ⟨V0, c0, rfl, hp, hb⟩
              exact ⟨_, rfl, ⟨⟨V0, c0, rfl, hp⟩, hI.trans (hb.mono hI.size), fun j u _ _ h => netPl36_later hb h⟩⟩
            · obtain ⟨u168, g168, e168⟩ := hd 15 168; have hf := hE.func
              refine Reg.yes ?_
              obtain ⟨V1, c1, rfl, hp1⟩ := g168
              refine Reg.Gives.call (f := 13) (args := #[.slice V1 q c1]) (w' := wi) (by go_simp) ?_
              refine (HPLN.out wi V1 c1 hp1).mono ?_
              rintro e w'' ⟨V0, c0, rfl, hp, hb⟩
              exact ⟨_, rfl, ⟨⟨V0, c0, rfl, hp⟩, hI.trans (hb.mono hI.size), fun j u _ _ h => netPl36_later hb h⟩⟩
            · have e7 : ρ (.tmp 7) = .pointer (some ⟨rb, 0, none⟩) := hs 7
              refine Reg.yes ?_
              exact Reg.gw hI
            · obtain ⟨_, rfl, e170⟩ := hd 17 170
              refine Reg.yes ?_
              exact Reg.gw hI
            · obtain ⟨_, rfl, e171⟩ := hd 18 171
              refine Reg.yes ?_
              exact Reg.gw hI
            · obtain ⟨_, rfl, e172⟩ := hd 19 172
              refine Reg.yes ?_
              have x0 := HR1.out _ hI; exact Reg.gw hI
            · obtain ⟨u169, g169, e169⟩ := hd 16 169; obtain ⟨_, rfl, e173⟩ := hd 20 173; have hf := hE.func
              refine Reg.yes ?_
              obtain ⟨V1, c1, rfl, hp1⟩ := g169
              refine Reg.Gives.call (f := 25) (args := #[.slice V1 q c1, .slice RA q ac]) (w' := wi) (by go_simp) ?_
              refine (HSM.out wi V1 c1 hI hp1).mono ?_
              rintro e w'' ⟨rfl, hb⟩
              exact ⟨_, rfl, ⟨rfl, hI.trans (hb.mono hI.size), fun j u _ _ h => netPl36_later hb h⟩⟩
            · obtain ⟨_, rfl, e174⟩ := hd 21 174
              refine Reg.yes ?_
              exact Reg.gw hI
            · obtain ⟨_, rfl, e166⟩ := hd 13 166; obtain ⟨_, rfl, e175⟩ := hd 22 175; have hc := hE.const; exact Reg.gw hI
          · intro V wf hV hI
            have hV23 : V 23 = .bool false := hV 23 (by decide) rfl
            simp only [Reg.putsO, List.foldl_cons, List.foldl_nil, Act.put, List.setIfInBounds_toArray, List.set_cons_succ, List.set_cons_zero, hV23]
            replace hI : (fun a => Below we2.heap.size we2 a) wf := hI
            clear hV hV23
            have hT := HT2.out.later hI
            rw [HU.out] at hT
            have HNX : Hid (∀ cells : Array Value, Two w1.heap.size w1 (wf.alloc (.cells cells 33)) b m rb wf.heap.size cells.toList (fun j => j = wf.heap.size) N' R' (k + 1)) := Lib.hid fun cells => hT.next cells rfl
            have HBX := Lib.hid hT.low
            clear hI hT HLN HALL HPLN HSM HR1
            go_wp2_with fail
            go_roundw
            case rel => exact ⟨k + 1, N', R', by omega, by go_num, HAL2, HNX, HBX⟩
            case measure => simp [intOf]; omega
      · obtain rfl : k = n := by omega
        go_wp2_with fail
        go_returns
        exact ⟨rfl, HB1.out.trans (HB.out.mono HB1.out.size)⟩
theorem opened {H : Type} {enc : TypeId × Value → H} {W : World} {base : Nat} {gs : List (DataW H)} (v0 : Value) (d0 : DataW H) (p0 : List MemPlace) (v1 : Value) (d1 : DataW H) (p1 : List MemPlace)
    (o0 : Value.okWide Try.prog W .any base 3 v0) (t0 : DataW.Trod enc Try.prog W 0 (fun _ => true) true 3 v0 d0 p0)
    (o1 : Value.okWide Try.prog W .any base 22 v1) (t1 : DataW.Trod enc Try.prog W 0 (fun _ => true) true 22 v1 d1 p1)
    (hsz : (DataW.weightsEach Try.prog ([3, 22] ++ []) ([d0, d1] ++ gs)).all (· ≤ reachBytes) = true) :
    Calls Try.prog 3 #[v0, v1] W fun e W' => e = .returned (.bool true) ∧ Below W.heap.size W W' := by
  obtain ⟨x, rfl, _, _, _⟩ := open_int Try.underlying3 o0 t0
  obtain ⟨a0, len, cap, rfl⟩ := okWide_slice Try.underlying22 o1
  obtain ⟨A, os, cap', e, h1, h2, _⟩ := came_ops (came_of t1 (Base.small_of hsz (j := 1) rfl rfl) (by simp [Value.cells]))
  rw [e]
  exact walk x A os cap' W h1 h2

theorem contract (H : Type) (enc : TypeId × Value → H) (W : World) (base : Nat) (args : Array Value) (ds gs : List (DataW H)) (before : List MemPlace)
    (hval : ∀ (j : Nat) t v, Try.f3.params[j]? = some t → args[j]? = some v → Value.okWide Try.prog W .any base t v)
    (hW : DataW.Whole enc Try.prog Try.f3.params.toList Rows.netPlaysSpec.vars false W args.toList ds gs before)
    (hsz : (DataW.weightsEach Try.prog (Try.f3.params.toList ++ []) (ds ++ gs)).all (· ≤ reachBytes) = true) :
    Calls Try.prog 3 args W fun e W' => ∃ v, e = .returned v ∧ Rows.netPlaysSpec.post enc Try.prog Try.f3 false true false false W args v W' := by
  have hW0 := hW
  obtain ⟨p, q, hA0, hV, rfl, _, _⟩ := hW
  have hA : DataW.TrodAll enc Try.prog W 0 (fun _ => true) true Try.f3.params.toList args.toList ds p := hA0
  rw [Try.params3] at hA hval hsz
  obtain ⟨v0, vs0, d0, ds0, p0, q0, hargs, rfl, rfl, h0, r0⟩ := trodAll_cons hA
  obtain ⟨v1, vs1, d1, ds1, p1, q1, rfl, rfl, rfl, h1, r1⟩ := trodAll_cons r0
  obtain ⟨rfl, rfl, rfl⟩ := trodAll_nil r1
  obtain rfl : args = #[v0, v1] := by cases args; simp_all
  refine (opened v0 d0 p0 v1 d1 p1 (hval 0 3 v0 rfl rfl) h0 (hval 1 22 v1 rfl rfl) h1 hsz).mono fun e W' ⟨he, hb⟩ => ⟨_, he, ?_⟩
  exact Base.law_post (tb := 4) Base.laidOut (by kernel_rfl) rfl Try.underlying4 rfl (fun l hl => by
    rw [Try.params3] at hl
    match l, hl with
    | [_, _], _ => rfl) (by rw [Try.params3]; rfl) hW0 hb

theorem laid_met (os : Os) : laidMet Try.prog Rows.netPlaysRow.laid ((Base.plainWorld os).forCall (fun _ _ => 0) ⟨#[], #[.int .i64 0, .slice none 0 0], []⟩).memory := laidMet_nil _ _
theorem reads (os : Os) {H : Type} (enc : TypeId × Value → H) : ∃ places, DataW.whole enc Try.prog ((Base.plainWorld os).forCall (fun _ _ => 0) ⟨#[], #[.int .i64 0, .slice none 0 0], []⟩).memory Try.f3.params.toList Rows.netPlaysSpec.vars false (#[.int .i64 0, .slice none 0 0] : Array Value).toList 8 = some ([.lit (.int .i64 0), .nil], [], places) :=
  ⟨[], by kernel_rfl⟩

set_option maxRecDepth 100000 in
theorem lifted (os : Os) (started : os.Started) (H : Type) (enc : TypeId × Value → H) (F : Stop.Interp) :
    ReturnsInHanded {} Try.checked os 3 .any ((OpenSpec.ofChange Rows.netPlaysSpec).preRow enc Try.prog Try.f3 Rows.netPlaysRow.domain false Rows.netPlaysRow.laid) (((OpenSpec.ofChange Rows.netPlaysSpec).at F).post enc Try.prog Try.f3 false true false false) := by
  obtain ⟨places, hx⟩ := reads os enc
  refine returnsInHanded_of_row (C := Try.checked) (s := OpenSpec.ofChange Rows.netPlaysSpec) Base.own started (by kernel_rfl) Try.func3
    (witness_row_at (enc := enc) (C := Try.checked) false (Base.plainWorld os) #[.int .i64 0, .slice none 0 0] rfl (by kernel_rfl) (by kernel_rfl) (by kernel_rfl)
      (OpenSpec.preRow_of_cond 8 hx (by kernel_rfl) (fun k hk => by cases hk) (by kernel_rfl) (laid_met os))) ?_
  intro W base args ds gs before hval hW _ _ hsz _ _ _
  exact contract H enc W base args ds gs before hval hW hsz

theorem said : Rows.NetPlaysSaid :=
  OpenClaim.holds_of_cond 3 Try.f3 rfl rfl rfl rfl rfl rfl rfl ⟨rfl, rfl, rfl, rfl, rfl⟩ rfl rfl rfl rfl rfl (by kernel_rfl) Try.func3 (by kernel_rfl)
    (of_decide_eq_true (by kernel_rfl)) (by unfold Func.isWrapper; rw [if_neg (of_decide_eq_false (by kernel_rfl))]; exact ⟨rfl, rfl⟩)
    (fun os started H enc _ F => by rw [OpenClaim.pre_eq_preRow]; exact lifted os started H enc F)
#print axioms said
end Go.Proofs.Ytfhcfiebhagbeaa.NetPlays
