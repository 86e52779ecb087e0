/- Part 21 of the proof. Conditions: none. -/
import Derived.Test.YtdkchpiinelmiaaGreatZ18
namespace Go.Proofs.YtdkchpiinelmiaaGreat.Led
set_option maxRecDepth 100000
open Go.RowKit Go.Deep Mem fN Rec
def kK (s : St) (k : Nat) (pl : Pl) (n0 n1 n2 n3 n4 : Int) (d0 d1 d2 d3 d4 : Bool) : St := { s with places := s.places.set k ⟨cond d0 n0 pl.status, cond d1 n1 pl.hop, cond d2 n2 pl.to, cond d3 n3 pl.version, cond d4 n4 pl.value⟩ }
section
variable {base b pb k : Nat} {w : World} {s : St} {y : Sy} {pl : Pl} {n0 n1 n2 n3 n4 : Int} {d0 d1 d2 d3 d4 : Bool}
theorem xD (h : s.places[k]? = some pl) : kK s k pl n0 n1 n2 n3 n4 false false false false false = s := by
 unfold kK; simp only [cond_false]; obtain ⟨hk, e⟩ := List.getElem?_eq_some_iff.1 h; have : s.places.set k pl = s.places := by rw [<- e]; exact List.set_getElem_self hk
 rw [this]
theorem iV (h : k < s.places.length) : (kK s k pl n0 n1 n2 n3 n4 d0 d1 d2 d3 d4).places[k]? = some ⟨cond d0 n0 pl.status, cond d1 n1 pl.hop, cond d2 n2 pl.to, cond d3 n3 pl.version, cond d4 n4 pl.value⟩ := by
 unfold kK; rw [List.getElem?_set_self h]
theorem gT : (kK s k pl n0 n1 n2 n3 n4 d0 d1 d2 d3 d4).places.length = s.places.length := by unfold kK; rw [List.length_set]
theorem mj (q : Pl) : ({ (kK s k pl n0 n1 n2 n3 n4 d0 d1 d2 d3 d4) with places := (kK s k pl n0 n1 n2 n3 n4 d0 d1 d2 d3 d4).places.set k q } : St) = { s with places := s.places.set k q } := by unfold kK; simp
theorem JZ (h : Own base w b (kK s k pl n0 n1 n2 n3 n4 false d1 d2 d3 d4) y) (hP : y.P = some ⟨pb, 0, none⟩) (hk : k < s.places.length) :
  Own base (w.setCell ⟨pb, k * 5 + 0, none⟩ (iv n0)) b (kK s k pl n0 n1 n2 n3 n4 true d1 d2 d3 d4) y /\ Only (fun k => some k = blk y.P) w (w.setCell ⟨pb, k * 5 + 0, none⟩ (iv n0)) := by
 obtain ⟨h1, h2, _⟩ := h.putCells hP ⟨n0, cond d1 n1 pl.hop, cond d2 n2 pl.to, cond d3 n3 pl.version, cond d4 n4 pl.value⟩ (by rw [gT]; exact hk) [iv n0] 0 (by simp [Value.oneCell']) (by simp) (fun q e => by rw [iV hk] at e; obtain rfl := Option.some.inj e; rfl); rw [mj] at h1; exact ⟨h1, h2⟩
theorem JY (h : Own base w b (kK s k pl n0 n1 n2 n3 n4 d0 false d2 d3 d4) y) (hP : y.P = some ⟨pb, 0, none⟩) (hk : k < s.places.length) :
  Own base (w.setCell ⟨pb, k * 5 + 1, none⟩ (iv n1)) b (kK s k pl n0 n1 n2 n3 n4 d0 true d2 d3 d4) y /\ Only (fun k => some k = blk y.P) w (w.setCell ⟨pb, k * 5 + 1, none⟩ (iv n1)) := by
 obtain ⟨h1, h2, _⟩ := h.putCells hP ⟨cond d0 n0 pl.status, n1, cond d2 n2 pl.to, cond d3 n3 pl.version, cond d4 n4 pl.value⟩ (by rw [gT]; exact hk) [iv n1] 1 (by simp [Value.oneCell']) (by simp) (fun q e => by rw [iV hk] at e; obtain rfl := Option.some.inj e; rfl); rw [mj] at h1; exact ⟨h1, h2⟩
theorem JX (h : Own base w b (kK s k pl n0 n1 n2 n3 n4 d0 d1 false d3 d4) y) (hP : y.P = some ⟨pb, 0, none⟩) (hk : k < s.places.length) :
  Own base (w.setCell ⟨pb, k * 5 + 2, none⟩ (iv n2)) b (kK s k pl n0 n1 n2 n3 n4 d0 d1 true d3 d4) y /\ Only (fun k => some k = blk y.P) w (w.setCell ⟨pb, k * 5 + 2, none⟩ (iv n2)) := by
 obtain ⟨h1, h2, _⟩ := h.putCells hP ⟨cond d0 n0 pl.status, cond d1 n1 pl.hop, n2, cond d3 n3 pl.version, cond d4 n4 pl.value⟩ (by rw [gT]; exact hk) [iv n2] 2 (by simp [Value.oneCell']) (by simp) (fun q e => by rw [iV hk] at e; obtain rfl := Option.some.inj e; rfl); rw [mj] at h1; exact ⟨h1, h2⟩
theorem JW (h : Own base w b (kK s k pl n0 n1 n2 n3 n4 d0 d1 d2 false d4) y) (hP : y.P = some ⟨pb, 0, none⟩) (hk : k < s.places.length) :
  Own base (w.setCell ⟨pb, k * 5 + 3, none⟩ (iv n3)) b (kK s k pl n0 n1 n2 n3 n4 d0 d1 d2 true d4) y /\ Only (fun k => some k = blk y.P) w (w.setCell ⟨pb, k * 5 + 3, none⟩ (iv n3)) := by
 obtain ⟨h1, h2, _⟩ := h.putCells hP ⟨cond d0 n0 pl.status, cond d1 n1 pl.hop, cond d2 n2 pl.to, n3, cond d4 n4 pl.value⟩ (by rw [gT]; exact hk) [iv n3] 3 (by simp [Value.oneCell']) (by simp) (fun q e => by rw [iV hk] at e; obtain rfl := Option.some.inj e; rfl); rw [mj] at h1; exact ⟨h1, h2⟩
theorem JV (h : Own base w b (kK s k pl n0 n1 n2 n3 n4 d0 d1 d2 d3 false) y) (hP : y.P = some ⟨pb, 0, none⟩) (hk : k < s.places.length) :
  Own base (w.setCell ⟨pb, k * 5 + 4, none⟩ (iv n4)) b (kK s k pl n0 n1 n2 n3 n4 d0 d1 d2 d3 true) y /\ Only (fun k => some k = blk y.P) w (w.setCell ⟨pb, k * 5 + 4, none⟩ (iv n4)) := by
 obtain ⟨h1, h2, _⟩ := h.putCells hP ⟨cond d0 n0 pl.status, cond d1 n1 pl.hop, cond d2 n2 pl.to, cond d3 n3 pl.version, n4⟩ (by rw [gT]; exact hk) [iv n4] 4 (by simp [Value.oneCell']) (by simp) (fun q e => by rw [iV hk] at e; obtain rfl := Option.some.inj e; rfl); rw [mj] at h1; exact ⟨h1, h2⟩
end
def aX (s : St) (x : It) : St := if x.write = true /\ bp s x.cell = true then bJ s x.cell ⟨(cw s x.cell).status, (cw s x.cell).hop, (cw s x.cell).to, IntKind.i64.wrap ((cw s x.cell).version + 1), x.new⟩ else s
def aO (s : St) (l : List It) : St := l.foldl aX s
theorem ru (s : St) {l : List It} {k : Nat} (h : k < l.length) : aO s (l.take (k + 1)) = aX (aO s (l.take k)) l[k] := by
 unfold aO; rw [List.take_succ_eq_append_getElem h, List.foldl_append]
 rfl
def Eu (ib : Nat) : Nat -> Value -> World -> Prop := N.tb [.inl (.pointer (some ⟨ib, 3, none⟩)), .inl (.bool false), .inl (.bool false), .inl (undef), .inl (undef), .inl (undef), .inl (undef), .inl (undef), .inl (undef), .inl (.bool false)]
def Et (s : St) (y : Sy) (b : Nat) (x : It) (ib : Nat) : Nat -> Value -> World -> Prop := N.tb [.inl (.pointer (some ⟨ib, 3, none⟩)), .inl (.bool true), .inl (.bool true), .inl (.pointer (some ⟨b, 0, none⟩)), .inl (.pointer (some ⟨b, 0, none⟩)), .inl (s.val y), .inl (.pointer (some ⟨ib, 0, none⟩)), .inl (.int .i64 x.cell), .inl (.bool (bp s x.cell)), .inl (.bool (bp s x.cell))]
def Hs (s : St) (y : Sy) (b : Nat) (pb : Nat) (k : Nat) (x : It) (ib : Nat) : Nat -> Value -> World -> Prop := N.tb [.inl (.pointer (some ⟨b, 0, none⟩)), .inl (.pointer (some ⟨b, 0, none⟩)), .inl (.pointer (some ⟨b, 4, none⟩)), .inl (.slice y.P s.places.length y.p), .inl (.pointer (some ⟨ib, 0, none⟩)), .inl (.int .i64 x.cell), .inl (.pointer (some ⟨pb, k * 5, none⟩)), .inl (.pointer (some ⟨pb, k * 5, none⟩))]
set_option maxHeartbeats 4000000 in
theorem Ee (s0 : St) (y : Sy) (base b : Nat) (A : Option Addr) (l : List It) (cap : Nat) (w : World) (ho : Own base w b s0 y) (hi : ∀ w', Only (fun k => some k = blk y.P) w w' -> Items w' A l) (hl : l.length <= 100000) :
  Calls Tryz.prog 97 #[(au b), .slice A l.length cap] w fun e w' => e = .returned (.tuple #[]) /\ Own base w' b (aO s0 l) y /\ Only (fun k => some k = blk y.P) w w' := by
 have HO := ak ho; have HIT := ak hi; obtain ⟨n, hn⟩ := ah l.length; have HN := ak hn; rw [hn] at hl ⊢; clear ho hi hn
 go_enter Tryz.func97, Tryz.ntmps97
 go_wp2_with fail
 go_loopw [9] (fun i wr => ∃ j0 : Nat, j0 <= n /\ i = iv (j0 : Int) /\ Hid (Own base wr b (aO s0 (l.take j0)) y) /\ Hid (Only (fun k => some k = blk y.P) w wr)) (fun i _ => n - (intOf i).toNat)
 case atStart => exact ⟨0, Nat.zero_le _, rfl, ak (by rw [List.take_zero]; exact HO.o), ak (Only.refl _ _)⟩
 case round =>
  obtain ⟨j0, hj, rfl, XC, aN⟩ := hrel
  by_cases hlt : j0 < n
  ·have hlk : j0 < l.length := by have := HN.o; omega
   obtain ⟨ab, off, hA, hit⟩ := HIT.o wr aN.o j0 hlk; subst hA; have HW := ak (ru s0 hlk); obtain ⟨x, hx⟩ := ah (l[j0]); obtain ⟨s, hs⟩ := ah (aO s0 (l.take j0)); rw [hs, hx] at HW; rw [hs] at XC; rw [hx] at hit; have z0 := hit.cell; have z1 := hit.version; have z2 := hit.value; have z3 := hit.write; have z4 := hit.new; clear hit hs hx hlk; obtain ⟨wc, hwc⟩ := aj (wr.alloc (.cells #[iv x.cell, iv x.version, iv x.value, .bool x.write, iv x.new] 64)); have hb : Below wr.heap.size wr wc := by rw [hwc]; exact av _ _
   have aR := ak (XC.o.later hb); have JG : Hid (Cells wc wr.heap.size 64 x.vals) := ak (by rw [hwc]; exact aB _ _ _ _ rfl); have bB := ak hb; have UD : Hid (¬ some wr.heap.size = blk y.P) := ak fun e => by have := (XC.o.lists.lt (Or.inl e)).2; omega
   have GQ : Hid (∀ wi, Below wr.heap.size wr wi -> Only (fun k => some k = blk y.P) w wi) := ak fun wi h => aN.o.trans (S' := fun _ => False) (Only.of_below h) fun _ _ e => e.elim
   clear hb
   go_upto_region 3 with (fail)
   rw [<- hwc]; clear hwc z0 z1 z2 z3 z4
   cases hw : x.write with
   | false =>
    have Xq := ak hw; have HS : Hid (aO s0 (l.take (j0 + 1)) = s) := ak (by rw [HW.o]; unfold aX; rw [hw]; simp); clear hw; refine N.rb 9 [9] (Eu wr.heap.size) wc (fun V => [(some 13, V 0), (some 14, V 1), (some 15, V 2), (some 16, V 3), (some 17, V 4), (some 18, V 5), (some 19, V 6), (some 20, V 7), (some 21, V 8), (some 22, V 9)]) ?_ ?_
    ·intro i o ho
     have hi : i < 10 := (Array.getElem?_eq_some_iff.1 ho).1; rcases i with _ | _ | _ | _ | _ | _ | _ | _ | _ | _ | i
     rotate_right
     ·omega
     all_goals obtain rfl := Option.some.inj ho
     all_goals intro ρ wi hE hI hs hd
     all_goals try dsimp only at hI
     ·have e5 : ρ (.tmp 5) = (au wr.heap.size) := hs 5; exact N.gw hI
     ·obtain ⟨_, rfl, l5⟩ := hd 0 13; have x3 := (JG.o.later hI).cell (j := 3) rfl
      rw [Xq.o] at x3; exact N.gw hI
     ·obtain ⟨_, rfl, mZ⟩ := hd 1 14; exact N.gw hI
     iterate 6 ·exact N.no hI
     obtain ⟨_, rfl, mY⟩ := hd 2 15; obtain ⟨_, rfl, ug⟩ := hd 8 21; have hc := hE.const; exact N.gw hI
    intro V wd hV hI
    have Kz : V 9 = .bool false := hV 9 (by decide) rfl; simp only [N.aP, List.foldl_cons, List.foldl_nil, Act.put, List.setIfInBounds_toArray, List.set_cons_succ, List.set_cons_zero, Kz]; replace hI : (fun a => Below wc.heap.size wc a) wd := hI; clear hV Kz; have Lh : Hid (Own base wd b (aO s0 (l.take (j0 + 1))) y) := ak (by rw [HS.o]; exact aR.o.later hI); have kj := ak (GQ.o wd (bB.o.trans (hI.mono bB.o.size))); clear hI
    go_wp2_with fail
    go_roundw
    case rel => exact ⟨j0 + 1, by omega, by go_num, Lh, kj⟩
    case measure => simp [intOf]; omega
   | true =>
    have Xq := ak hw; clear hw; refine N.rb 9 [9] (Et s y b x wr.heap.size) wc (fun V => [(some 13, V 0), (some 14, V 1), (some 15, V 2), (some 16, V 3), (some 17, V 4), (some 18, V 5), (some 19, V 6), (some 20, V 7), (some 21, V 8), (some 22, V 9)]) ?_ ?_
    ·intro i o ho
     have hi : i < 10 := (Array.getElem?_eq_some_iff.1 ho).1; rcases i with _ | _ | _ | _ | _ | _ | _ | _ | _ | _ | i
     rotate_right
     ·omega
     all_goals obtain rfl := Option.some.inj ho
     all_goals intro ρ wi hE hI hs hd
     all_goals try dsimp only at hI
     all_goals (have e5 : ρ (.tmp 5) = (au wr.heap.size) := hs 5)
     ·exact N.gw hI
     ·obtain ⟨_, rfl, l5⟩ := hd 0 13; have x3 := (JG.o.later hI).cell (j := 3) rfl
      rw [Xq.o] at x3; exact N.gw hI
     ·obtain ⟨_, rfl, mZ⟩ := hd 1 14; exact N.gw hI
     ·have e0 : ρ (.tmp 0) = (au b) := hs 0
      refine N.yes ?_; exact N.gw hI
     ·obtain ⟨_, rfl, e16⟩ := hd 3 16
      refine N.yes ?_; exact N.gw hI
     ·obtain ⟨_, rfl, e17⟩ := hd 4 17
      refine N.yes ?_; exact N.Gives.value (v := s.val y) (w' := wi) (aQ _ _ rfl _ _ (by assumption) (aS (aR.o.later hI))) (N.bA.same hI rfl)
     ·refine N.yes ?_
      exact N.gw hI
     ·obtain ⟨_, rfl, e19⟩ := hd 6 19
      refine N.yes ?_; have x0 := (JG.o.later hI).cell (j := 0) rfl; exact N.gw hI
     ·obtain ⟨_, rfl, e18⟩ := hd 5 18; obtain ⟨_, rfl, wL⟩ := hd 7 20; have hf := hE.func
      refine N.yes ?_; refine N.Gives.call (f := 36) (args := #[s.val y, iv x.cell]) (w' := wi) (by go_simp) ?_; refine (fF s y x.cell wi).mono ?_; rintro e w'' ⟨rfl, hbb⟩; exact ⟨_, rfl, ⟨rfl, hI.trans (hbb.mono hI.size), fun j u _ _ h => N.tz h⟩⟩
     obtain ⟨_, rfl, mY⟩ := hd 2 15; obtain ⟨_, rfl, ug⟩ := hd 8 21; have hc := hE.const; exact N.gw hI
    intro V wd hV hI
    have Kz : V 9 = .bool (bp s x.cell) := hV 9 (by decide) rfl; simp only [N.aP, List.foldl_cons, List.foldl_nil, Act.put, List.setIfInBounds_toArray, List.set_cons_succ, List.set_cons_zero, Kz]; replace hI : (fun a => Below wc.heap.size wc a) wd := hI; clear hV Kz; have cu := ak (aR.o.later hI); have Wj := ak (JG.o.later hI); have ez := ak (bB.o.trans (hI.mono bB.o.size)); clear hI
    cases hh : bp s x.cell with
    | false =>
     have HS : Hid (aO s0 (l.take (j0 + 1)) = s) := ak (by rw [HW.o]; unfold aX; rw [hh]; simp); have Lh : Hid (Own base wd b (aO s0 (l.take (j0 + 1))) y) := ak (by rw [HS.o]; exact cu.o); have kj := ak (GQ.o wd ez.o); clear hh
     go_wp2_with fail
     go_roundw
     case rel => exact ⟨j0 + 1, by omega, by go_num, Lh, kj⟩
     case measure => simp [intOf]; omega
    | true =>
     obtain ⟨pb, k, pl, hP, hk, hkl, hpl, hpa⟩ := cu.o.place hh; have dX := ak (And.intro hP (And.intro hk (And.intro hkl hpl))); have HS : Hid (aO s0 (l.take (j0 + 1)) = kK s k pl 0 0 0 (IntKind.i64.wrap (pl.version + 1)) x.new false false false true true) := ak (by
      rw [HW.o]; unfold aX bJ kK; rw [if_pos ⟨Xq.o, hh⟩, hpa, hk, Int.toNat_natCast]
      rfl)
     clear hP hk hkl hpl hpa hh
     go_upto_region 4 with (fail)
     refine N.rb 7 [7] (Hs s y b pb k x wr.heap.size) wd (fun V => [(some 23, V 0), (some 24, V 1), (some 25, V 2), (some 26, V 3), (some 27, V 4), (some 28, V 5), (some 29, V 6), (some 6, V 7)]) ?_ ?_
     ·intro i o ho
      have hi : i < 8 := (Array.getElem?_eq_some_iff.1 ho).1; rcases i with _ | _ | _ | _ | _ | _ | _ | _ | i
      rotate_right
      ·omega
      all_goals obtain rfl := Option.some.inj ho
      all_goals intro ρ wi hE hI hs hd
      all_goals try dsimp only at hI
      ·have e0 : ρ (.tmp 0) = (au b) := hs 0; exact N.gw hI
      ·obtain ⟨_, rfl, Fu⟩ := hd 0 23; exact N.gw hI
      ·obtain ⟨_, rfl, DL⟩ := hd 1 24; exact N.gw hI
      ·obtain ⟨_, rfl, DK⟩ := hd 2 25; have x0 := (cu.o.later hI).br.cell (j := 4) rfl; exact N.gw hI
      ·have e5 : ρ (.tmp 5) = (au wr.heap.size) := hs 5; exact N.gw hI
      ·obtain ⟨_, rfl, Bn⟩ := hd 4 27; have x0 := (Wj.o.later hI).cell (j := 0) rfl; exact N.gw hI
      ·obtain ⟨_, rfl, zj⟩ := hd 3 26; obtain ⟨_, rfl, Bl⟩ := hd 5 28; have hP := dX.o.1; have hk := dX.o.2.1; have hkl := dX.o.2.2.1; exact N.gw hI
      obtain ⟨_, rfl, wK⟩ := hd 6 29; exact N.gw hI
     intro V we hV hI
     have jr : V 7 = .pointer (some ⟨pb, k * 5, none⟩) := hV 7 (by decide) rfl; simp only [N.aP, List.foldl_cons, List.foldl_nil, Act.put, List.setIfInBounds_toArray, List.set_cons_succ, List.set_cons_zero, jr]; replace hI : (fun a => Below wd.heap.size wd a) we := hI; clear hV jr; have fV := ak (cu.o.later hI); have Gr := ak (Wj.o.later hI); have jC := ak (ez.o.trans (hI.mono ez.o.size)); clear hI; have HI : Own base we.drew b (kK s k pl 0 0 0 (IntKind.i64.wrap (pl.version + 1)) x.new false false false false false) y /\ Only (fun j => some j = blk y.P) we we.drew /\ Cells we.drew wr.heap.size 64 x.vals := ⟨by rw [xD dX.o.2.2.2]; exact fV.o.later (Below.refl _ _).drew, Only.of_below (Below.refl _ _).drew, Gr.o.later (Below.refl _ _).drew⟩
     go_upto_region 5 with (fail)
     refine N.bk (by kernel_rfl) (fun i => ([some (.pointer (some ⟨pb, k * 5, none⟩)), some (.pointer (some ⟨pb, k * 5, none⟩)), some (.pointer (some ⟨pb, k * 5, none⟩)), some (.pointer (some ⟨pb, k * 5, none⟩)), some (.pointer (some ⟨pb, k * 5 + 3, none⟩)), some (iv pl.version), some (iv (IntKind.i64.wrap (pl.version + 1))), some (.pointer (some ⟨wr.heap.size, 4, none⟩)), some (iv x.new), some (.pointer (some ⟨pb, k * 5, none⟩)), some (.pointer (some ⟨pb, k * 5 + 3, none⟩)), none, some (.pointer (some ⟨pb, k * 5, none⟩)), some (.pointer (some ⟨pb, k * 5 + 4, none⟩)), none] : List (Option Value)).getD i none) (fun D V W => Own base W b (kK s k pl 0 0 0 (IntKind.i64.wrap (pl.version + 1)) x.new false false false (D 11) (D 14)) y /\ Only (fun j => some j = blk y.P) we W /\ Cells W wr.heap.size 64 x.vals) (fun V => [(some 30, V 0), (some 31, V 1), (some 32, V 2), (some 33, V 3), (some 34, V 4), (some 35, V 5), (some 36, V 6), (some 37, V 7), (some 38, V 8), (some 39, V 9), (some 40, V 10), (none, V 11), (some 41, V 12), (some 42, V 13), (none, V 14)]) (by kernel_rfl) (by kernel_rfl) (fun V => rfl) ?_ ?_ ?_
     ·intro V
      exact HI
     ·intro i o ho
      have hi : i < 15 := (Array.getElem?_eq_some_iff.1 ho).1; rcases i with _ | _ | _ | _ | _ | _ | _ | _ | _ | _ | _ | _ | _ | _ | _ | i
      rotate_right
      ·omega
      all_goals obtain rfl := Option.some.inj ho
      all_goals intro D V ρ wi hE hI cP hT hF hs hd hk
      all_goals (have e6 : ρ (.tmp 6) = .pointer (some ⟨pb, k * 5, none⟩) := hs 6)
      ·clear hT hF hk
       exact N.gi _ ⟨fun _ => N.oi, hI⟩
      ·clear hT hF hk
       exact N.gi _ ⟨fun _ => N.oi, hI⟩
      ·clear hT hF hk
       exact N.gi _ ⟨fun _ => N.oi, hI⟩
      ·have zB := (hd 2 32).trans (hk 2 _ rfl); clear hT hF hk
       exact N.gi _ ⟨fun _ => N.oi, hI⟩
      ·have Bk := (hd 3 33).trans (hk 3 _ rfl); clear hT hF hk
       exact N.gi _ ⟨fun _ => N.oi, hI⟩
      ·have Bj := (hd 4 34).trans (hk 4 _ rfl); have fK : D 11 = false := hF 1 11; clear hT hF; have x0 := hI.1.bg dX.o.1 (iV dX.o.2.2.1) (j := 3) rfl
       simp only [fK, cond_false] at x0; exact N.gi _ ⟨fun _ => N.oi, hI⟩
      ·have r9 := (hd 5 35).trans (hk 5 _ rfl); have hc := hE.const; clear hT hF hk
       exact N.gi _ ⟨fun _ => N.oi, hI⟩
      ·have e5 : ρ (.tmp 5) = (au wr.heap.size) := hs 5; clear hT hF hk
       exact N.gi _ ⟨fun _ => N.oi, hI⟩
      ·have zi := (hd 7 37).trans (hk 7 _ rfl); clear hT hF; have x0 := hI.2.2.cell (j := 4) rfl
       exact N.gi _ ⟨fun _ => N.oi, hI⟩
      ·have e30 := (hd 0 30).trans (hk 0 _ rfl); clear hT hF hk
       exact N.gi _ ⟨fun _ => N.oi, hI⟩
      ·have e39 := (hd 9 39).trans (hk 9 _ rfl); clear hT hF hk
       exact N.gi _ ⟨fun _ => N.oi, hI⟩
      ·have wS := (hd 10 40).trans (hk 10 _ rfl); have r8 := (hd 6 36).trans (hk 6 _ rfl); have fK : D 11 = false := cP; clear hT hF
       rw [fK] at hI; have x0 := hI.1.bg dX.o.1 (iV dX.o.2.2.1) (j := 3) rfl; have x1 := hI.1.gP dX.o.1 (k := k) (by rw [gT]; exact dX.o.2.2.1) (j := 3) (by decide); obtain ⟨i1, i2⟩ := JW hI.1 dX.o.1 dX.o.2.2.1; exact N.Gives.skip (w' := wi.setCell ⟨pb, k * 5 + 3, none⟩ (iv (IntKind.i64.wrap (pl.version + 1)))) (by go_simp) ⟨fun x h => (by cases h), by show Own base (wi.setCell ⟨pb, k * 5 + 3, none⟩ (iv (IntKind.i64.wrap (pl.version + 1)))) b (kK s k pl 0 0 0 (IntKind.i64.wrap (pl.version + 1)) x.new false false false true (D 14)) y /\ Only (fun j => some j = blk y.P) we (wi.setCell ⟨pb, k * 5 + 3, none⟩ (iv (IntKind.i64.wrap (pl.version + 1)))) /\ Cells (wi.setCell ⟨pb, k * 5 + 3, none⟩ (iv (IntKind.i64.wrap (pl.version + 1)))) wr.heap.size 64 x.vals; exact ⟨i1, hI.2.1.trans i2 fun _ _ e => e, aJ hI.2.2 i2 UD.o⟩⟩
      ·have uQ := (hd 1 31).trans (hk 1 _ rfl); clear hT hF hk
       exact N.gi _ ⟨fun _ => N.oi, hI⟩
      ·have zA := (hd 12 41).trans (hk 12 _ rfl); clear hT hF hk
       exact N.gi _ ⟨fun _ => N.oi, hI⟩
      have DJ := (hd 13 42).trans (hk 13 _ rfl); have e38 := (hd 8 38).trans (hk 8 _ rfl); have eJ : D 14 = false := cP; clear hT hF
      rw [eJ] at hI; have x0 := hI.1.bg dX.o.1 (iV dX.o.2.2.1) (j := 4) rfl; have x1 := hI.1.gP dX.o.1 (k := k) (by rw [gT]; exact dX.o.2.2.1) (j := 4) (by decide); obtain ⟨i1, i2⟩ := JV hI.1 dX.o.1 dX.o.2.2.1; exact N.Gives.skip (w' := wi.setCell ⟨pb, k * 5 + 4, none⟩ (iv (x.new))) (by go_simp) ⟨fun x h => (by cases h), by show Own base (wi.setCell ⟨pb, k * 5 + 4, none⟩ (iv (x.new))) b (kK s k pl 0 0 0 (IntKind.i64.wrap (pl.version + 1)) x.new false false false (D 11) true) y /\ Only (fun j => some j = blk y.P) we (wi.setCell ⟨pb, k * 5 + 4, none⟩ (iv (x.new))) /\ Cells (wi.setCell ⟨pb, k * 5 + 4, none⟩ (iv (x.new))) wr.heap.size 64 x.vals; exact ⟨i1, hI.2.1.trans i2 fun _ _ e => e, aJ hI.2.2 i2 UD.o⟩⟩
     intro V wf hk hI
     simp only [N.aP, List.foldl_cons, List.foldl_nil, Act.put, List.setIfInBounds_toArray, List.set_cons_succ, List.set_cons_zero]; replace hI : Own base wf b (kK s k pl 0 0 0 (IntKind.i64.wrap (pl.version + 1)) x.new false false false true true) y /\ Only (fun j => some j = blk y.P) we wf /\ Cells wf wr.heap.size 64 x.vals := hI; clear hk; have Lh : Hid (Own base wf b (aO s0 (l.take (j0 + 1))) y) := ak (by rw [HS.o]; exact hI.1); have kj := ak ((GQ.o we jC.o).trans hI.2.1 fun _ _ e => e); clear hI HI
     go_wp2_with fail
     go_roundw
     case rel => exact ⟨j0 + 1, by omega, by go_num, Lh, kj⟩
     case measure => simp [intOf]; omega
  have HF : Hid (Own base wr b (aO s0 l) y) := ak (by
   have h := XC.o; rw [List.take_of_length_le (by have := HN.o; omega)] at h
   exact h)
  go_wp2_with fail
  go_returns
  exact ⟨rfl, HF.o, aN.o⟩
