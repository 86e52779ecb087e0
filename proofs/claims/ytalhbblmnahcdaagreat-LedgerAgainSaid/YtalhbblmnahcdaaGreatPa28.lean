/-
  Layer 8: what was prepared is written.
  Conditions: none.
-/
import Derived.Test.YtalhbblmnahcdaaGreatPa25
namespace Go.Proofs.YtalhbblmnahcdaaGreat.Led
set_option maxRecDepth 100000
open Go.RowKit Go.Deep Go.Proofs.YtalhbblmnahcdaaGreat.Mem Go.Proofs.YtalhbblmnahcdaaGreat.Item Go.Proofs.YtalhbblmnahcdaaGreat.Rec
/-- A place of which some cells are written. -/
def wrS (s : St) (k : Nat) (pl : Pl) (n0 n1 n2 n3 n4 : Int) (d0 d1 d2 d3 d4 : Bool) : St := { s with places := s.places.set k ⟨cond d0 n0 pl.status, cond d1 n1 pl.hop, cond d2 n2 pl.to, cond d3 n3 pl.version, cond d4 n4 pl.value⟩ }
section
variable {base b pb k : Nat} {w : World} {s : St} {y : Sy} {pl : Pl} {n0 n1 n2 n3 n4 : Int} {d0 d1 d2 d3 d4 : Bool}
theorem wrS_none (h : s.places[k]? = some pl) : wrS s k pl n0 n1 n2 n3 n4 false false false false false = s := by
 unfold wrS
 simp only [cond_false]
 obtain ⟨hk, e⟩ := List.getElem?_eq_some_iff.1 h
 have : s.places.set k pl = s.places := by rw [← e]; exact List.set_getElem_self hk
 rw [this]
theorem wrS_at (h : k < s.places.length) : (wrS s k pl n0 n1 n2 n3 n4 d0 d1 d2 d3 d4).places[k]? = some ⟨cond d0 n0 pl.status, cond d1 n1 pl.hop, cond d2 n2 pl.to, cond d3 n3 pl.version, cond d4 n4 pl.value⟩ := by
 unfold wrS
 rw [List.getElem?_set_self h]
theorem wrS_len : (wrS s k pl n0 n1 n2 n3 n4 d0 d1 d2 d3 d4).places.length = s.places.length := by unfold wrS; rw [List.length_set]
theorem wrS_set (q : Pl) : ({ (wrS s k pl n0 n1 n2 n3 n4 d0 d1 d2 d3 d4) with places := (wrS s k pl n0 n1 n2 n3 n4 d0 d1 d2 d3 d4).places.set k q } : St) = { s with places := s.places.set k q } := by unfold wrS; simp
theorem wr_put0 (h : Own base w b (wrS s k pl n0 n1 n2 n3 n4 false d1 d2 d3 d4) y) (hP : y.P = some ⟨pb, 0, none⟩) (hk : k < s.places.length) :
  Own base (w.setCell ⟨pb, k * 5 + 0, none⟩ (.int .i64 n0)) b (wrS s k pl n0 n1 n2 n3 n4 true d1 d2 d3 d4) y ∧ Only (fun k => some k = blk y.P) w (w.setCell ⟨pb, k * 5 + 0, none⟩ (.int .i64 n0)) := by
 obtain ⟨h1, h2, _⟩ := h.putCells hP ⟨n0, cond d1 n1 pl.hop, cond d2 n2 pl.to, cond d3 n3 pl.version, cond d4 n4 pl.value⟩ (by rw [wrS_len]; exact hk) [.int .i64 n0] 0 (by simp [Value.oneCell']) (by simp) (fun q e => by rw [wrS_at hk] at e; obtain rfl := Option.some.inj e; rfl)
 rw [wrS_set] at h1
 exact ⟨h1, h2⟩
theorem wr_put1 (h : Own base w b (wrS s k pl n0 n1 n2 n3 n4 d0 false d2 d3 d4) y) (hP : y.P = some ⟨pb, 0, none⟩) (hk : k < s.places.length) :
  Own base (w.setCell ⟨pb, k * 5 + 1, none⟩ (.int .i64 n1)) b (wrS s k pl n0 n1 n2 n3 n4 d0 true d2 d3 d4) y ∧ Only (fun k => some k = blk y.P) w (w.setCell ⟨pb, k * 5 + 1, none⟩ (.int .i64 n1)) := by
 obtain ⟨h1, h2, _⟩ := h.putCells hP ⟨cond d0 n0 pl.status, n1, cond d2 n2 pl.to, cond d3 n3 pl.version, cond d4 n4 pl.value⟩ (by rw [wrS_len]; exact hk) [.int .i64 n1] 1 (by simp [Value.oneCell']) (by simp) (fun q e => by rw [wrS_at hk] at e; obtain rfl := Option.some.inj e; rfl)
 rw [wrS_set] at h1
 exact ⟨h1, h2⟩
theorem wr_put2 (h : Own base w b (wrS s k pl n0 n1 n2 n3 n4 d0 d1 false d3 d4) y) (hP : y.P = some ⟨pb, 0, none⟩) (hk : k < s.places.length) :
  Own base (w.setCell ⟨pb, k * 5 + 2, none⟩ (.int .i64 n2)) b (wrS s k pl n0 n1 n2 n3 n4 d0 d1 true d3 d4) y ∧ Only (fun k => some k = blk y.P) w (w.setCell ⟨pb, k * 5 + 2, none⟩ (.int .i64 n2)) := by
 obtain ⟨h1, h2, _⟩ := h.putCells hP ⟨cond d0 n0 pl.status, cond d1 n1 pl.hop, n2, cond d3 n3 pl.version, cond d4 n4 pl.value⟩ (by rw [wrS_len]; exact hk) [.int .i64 n2] 2 (by simp [Value.oneCell']) (by simp) (fun q e => by rw [wrS_at hk] at e; obtain rfl := Option.some.inj e; rfl)
 rw [wrS_set] at h1
 exact ⟨h1, h2⟩
theorem wr_put3 (h : Own base w b (wrS s k pl n0 n1 n2 n3 n4 d0 d1 d2 false d4) y) (hP : y.P = some ⟨pb, 0, none⟩) (hk : k < s.places.length) :
  Own base (w.setCell ⟨pb, k * 5 + 3, none⟩ (.int .i64 n3)) b (wrS s k pl n0 n1 n2 n3 n4 d0 d1 d2 true d4) y ∧ Only (fun k => some k = blk y.P) w (w.setCell ⟨pb, k * 5 + 3, none⟩ (.int .i64 n3)) := by
 obtain ⟨h1, h2, _⟩ := h.putCells hP ⟨cond d0 n0 pl.status, cond d1 n1 pl.hop, cond d2 n2 pl.to, n3, cond d4 n4 pl.value⟩ (by rw [wrS_len]; exact hk) [.int .i64 n3] 3 (by simp [Value.oneCell']) (by simp) (fun q e => by rw [wrS_at hk] at e; obtain rfl := Option.some.inj e; rfl)
 rw [wrS_set] at h1
 exact ⟨h1, h2⟩
theorem wr_put4 (h : Own base w b (wrS s k pl n0 n1 n2 n3 n4 d0 d1 d2 d3 false) y) (hP : y.P = some ⟨pb, 0, none⟩) (hk : k < s.places.length) :
  Own base (w.setCell ⟨pb, k * 5 + 4, none⟩ (.int .i64 n4)) b (wrS s k pl n0 n1 n2 n3 n4 d0 d1 d2 d3 true) y ∧ Only (fun k => some k = blk y.P) w (w.setCell ⟨pb, k * 5 + 4, none⟩ (.int .i64 n4)) := by
 obtain ⟨h1, h2, _⟩ := h.putCells hP ⟨cond d0 n0 pl.status, cond d1 n1 pl.hop, cond d2 n2 pl.to, cond d3 n3 pl.version, n4⟩ (by rw [wrS_len]; exact hk) [.int .i64 n4] 4 (by simp [Value.oneCell']) (by simp) (fun q e => by rw [wrS_at hk] at e; obtain rfl := Option.some.inj e; rfl)
 rw [wrS_set] at h1
 exact ⟨h1, h2⟩
end
def writeOne (s : St) (x : It) : St := if x.write = true ∧ hasC s x.cell = true then setPl s x.cell ⟨(plAt s x.cell).status, (plAt s x.cell).hop, (plAt s x.cell).to, IntKind.i64.wrap ((plAt s x.cell).version + 1), x.new⟩ else s
def writeL (s : St) (l : List It) : St := l.foldl writeOne s
theorem writeL_take (s : St) {l : List It} {k : Nat} (h : k < l.length) : writeL s (l.take (k + 1)) = writeOne (writeL s (l.take k)) l[k] := by
 unfold writeL
 rw [List.take_succ_eq_append_getElem h, List.foldl_append]
 rfl
def ledM_wr3f (ib : Nat) : Nat → Value → World → Prop
 | 0, v, _ => v = .pointer (some ⟨ib, 3, none⟩)
 | 1, v, _ => v = .bool false
 | 2, v, _ => v = .bool false
 | 3, v, _ => v = undef
 | 4, v, _ => v = undef
 | 5, v, _ => v = undef
 | 6, v, _ => v = undef
 | 7, v, _ => v = undef
 | 8, v, _ => v = undef
 | 9, v, _ => v = .bool false
 | _, _, _ => True
def ledM_wr3t (s : St) (y : Sy) (b : Nat) (x : It) (ib : Nat) : Nat → Value → World → Prop
 | 0, v, _ => v = .pointer (some ⟨ib, 3, none⟩)
 | 1, v, _ => v = .bool true
 | 2, v, _ => v = .bool true
 | 3, v, _ => v = .pointer (some ⟨b, 0, none⟩)
 | 4, v, _ => v = .pointer (some ⟨b, 0, none⟩)
 | 5, v, _ => v = s.val y
 | 6, v, _ => v = .pointer (some ⟨ib, 0, none⟩)
 | 7, v, _ => v = .int .i64 x.cell
 | 8, v, _ => v = .bool (hasC s x.cell)
 | 9, v, _ => v = .bool (hasC s x.cell)
 | _, _, _ => True
theorem ledM_wr3t_later {s : St} {y : Sy} {b : Nat} {x : It} {ib : Nat} {j : Nat} {v : Value} {w w' : World} (_hb : Below w.heap.size w w') (h : ledM_wr3t s y b x ib j v w) : ledM_wr3t s y b x ib j v w' := by
 match j, h with
 | 0, h | 1, h | 2, h | 3, h | 4, h | 5, h | 6, h | 7, h | 8, h | 9, h => exact h
 | _ + 10, _ => exact trivial
def ledM_wr4 (s : St) (y : Sy) (b : Nat) (pb : Nat) (k : Nat) (x : It) (ib : Nat) : Nat → Value → World → Prop
 | 0, v, _ => v = .pointer (some ⟨b, 0, none⟩)
 | 1, v, _ => v = .pointer (some ⟨b, 0, none⟩)
 | 2, v, _ => v = .pointer (some ⟨b, 4, none⟩)
 | 3, v, _ => v = .slice y.P s.places.length y.p
 | 4, v, _ => v = .pointer (some ⟨ib, 0, none⟩)
 | 5, v, _ => v = .int .i64 x.cell
 | 6, v, _ => v = .pointer (some ⟨pb, k * 5, none⟩)
 | 7, v, _ => v = .pointer (some ⟨pb, k * 5, none⟩)
 | _, _, _ => True
set_option maxHeartbeats 4000000 in
theorem write_any (s0 : St) (y : Sy) (base b : Nat) (A : Option Addr) (l : List It) (cap : Nat) (w : World) (ho : Own base w b s0 y) (hi : ∀ w', Only (fun k => some k = blk y.P) w w' → Items w' A l) (hl : l.length ≤ 100000) :
  Calls Tryz.prog 103 #[.pointer (some ⟨b, 0, none⟩), .slice A l.length cap] w fun e w' => e = .returned (.tuple #[]) ∧ Own base w' b (writeL s0 l) y ∧ Only (fun k => some k = blk y.P) w w' := by
 have HO := Lib.hid ho
 have HIT := Lib.hid hi
 obtain ⟨n, hn⟩ : ∃ n, l.length = n := ⟨_, rfl⟩
 have HN := Lib.hid hn
 rw [hn] at hl ⊢
 clear ho hi hn
 go_enter Tryz.func103, Tryz.ntmps103
 go_wp2_with fail
 go_loopw [9] (fun i wr => ∃ j0 : Nat, j0 ≤ n ∧ i = .int .i64 (j0 : Int) ∧ Hid (Own base wr b (writeL s0 (l.take j0)) y) ∧ Hid (Only (fun k => some k = blk y.P) w wr)) (fun i _ => n - (intOf i).toNat)
 case atStart => exact ⟨0, Nat.zero_le _, rfl, Lib.hid (by rw [List.take_zero]; exact HO.out), Lib.hid (Only.refl _ _)⟩
 case round =>
  obtain ⟨j0, hj, rfl, HOR, HON⟩ := hrel
  by_cases hlt : j0 < n
  ·have hlk : j0 < l.length := by have := HN.out; omega
   obtain ⟨ab, off, hA, hit⟩ := HIT.out wr HON.out j0 hlk
   subst hA
   have HW := Lib.hid (writeL_take s0 hlk)
   obtain ⟨x, hx⟩ : ∃ x, l[j0] = x := ⟨_, rfl⟩
   obtain ⟨s, hs⟩ : ∃ s, writeL s0 (l.take j0) = s := ⟨_, rfl⟩
   rw [hs, hx] at HW
   rw [hs] at HOR
   rw [hx] at hit
   have z0 := hit.cell
   have z1 := hit.version
   have z2 := hit.value
   have z3 := hit.write
   have z4 := hit.new
   clear hit hs hx hlk
   obtain ⟨wc, hwc⟩ : ∃ v, v = wr.alloc (.cells #[.int .i64 x.cell, .int .i64 x.version, .int .i64 x.value, .bool x.write, .int .i64 x.new] 72) := ⟨_, rfl⟩
   have hb : Below wr.heap.size wr wc := by rw [hwc]; exact below_alloc _ _
   have HOwc := Lib.hid (HOR.out.later hb)
   have HXwc : Hid (Cells wc wr.heap.size 72 x.vals) := Lib.hid (by rw [hwc]; exact cells_new _ _ _ _ rfl)
   have HBwc := Lib.hid hb
   have HIP : Hid (¬ some wr.heap.size = blk y.P) := Lib.hid fun e => by have := (HOR.out.lists.lt (Or.inl e)).2; omega
   have HBASE : Hid (∀ wi, Below wr.heap.size wr wi → Only (fun k => some k = blk y.P) w wi) := Lib.hid fun wi h => HON.out.trans (S' := fun _ => False) (Only.of_below h) fun _ _ e => e.elim
   clear hb
   go_upto_region 3 with (fail)
   rw [← hwc]
   clear hwc z0 z1 z2 z3 z4
   cases hw : x.write with
   | false =>
    have HWT := Lib.hid hw
    have HS : Hid (writeL s0 (l.take (j0 + 1)) = s) := Lib.hid (by rw [HW.out]; unfold writeOne; rw [hw]; simp)
    clear hw
    refine Reg.region_heavy (by kernel_rfl) 9 [9] (ledM_wr3f wr.heap.size) (fun a => Below wc.heap.size wc a) (fun a => Below wc.heap.size wc a) (fun V => [(some 13, V 0), (some 14, V 1), (some 15, V 2), (some 16, V 3), (some 17, V 4), (some 18, V 5), (some 19, V 6), (some 20, V 7), (some 21, V 8), (some 22, V 9)]) (by kernel_rfl) (by kernel_rfl) (by kernel_rfl) (fun V => rfl) ?_ ?_ ?_
    ·exact (Below.refl _ _).drew
    ·intro i o ho
     have hi : i < 10 := (Array.getElem?_eq_some_iff.1 ho).1
     rcases i with _ | _ | _ | _ | _ | _ | _ | _ | _ | _ | i
     rotate_right
     ·omega
     all_goals obtain rfl := Option.some.inj ho
     all_goals intro ρ wi hE hI hs hd
     all_goals try dsimp only at hI
     ·have e5 : ρ (.tmp 5) = .pointer (some ⟨wr.heap.size, 0, none⟩) := hs 5; exact Reg.gw hI
     ·obtain ⟨_, rfl, e13⟩ := hd 0 13; have x3 := (HXwc.out.later hI).cell (j := 3) rfl
      rw [HWT.out] at x3
      exact Reg.gw hI
     ·obtain ⟨_, rfl, e14⟩ := hd 1 14; exact Reg.gw hI
     ·exact Reg.no hI
     ·exact Reg.no hI
     ·exact Reg.no hI
     ·exact Reg.no hI
     ·exact Reg.no hI
     ·exact Reg.no hI
     ·obtain ⟨_, rfl, e15⟩ := hd 2 15; obtain ⟨_, rfl, e21⟩ := hd 8 21; have hc := hE.const; exact Reg.gw hI
    ·intro V wd hV hI
     have hV9 : V 9 = .bool false := hV 9 (by decide) rfl
     simp only [Reg.putsO, List.foldl_cons, List.foldl_nil, Act.put, List.setIfInBounds_toArray, List.set_cons_succ, List.set_cons_zero, hV9]
     replace hI : (fun a => Below wc.heap.size wc a) wd := hI
     clear hV hV9
     have HO2 : Hid (Own base wd b (writeL s0 (l.take (j0 + 1))) y) := Lib.hid (by rw [HS.out]; exact HOwc.out.later hI)
     have HN2 := Lib.hid (HBASE.out wd (HBwc.out.trans (hI.mono HBwc.out.size)))
     clear hI
     go_wp2_with fail
     go_roundw
     case rel => exact ⟨j0 + 1, by omega, by go_num, HO2, HN2⟩
     case measure => simp [intOf]; omega
   | true =>
    have HWT := Lib.hid hw
    clear hw
    refine Reg.region_heavy (by kernel_rfl) 9 [9] (ledM_wr3t s y b x wr.heap.size) (fun a => Below wc.heap.size wc a) (fun a => Below wc.heap.size wc a) (fun V => [(some 13, V 0), (some 14, V 1), (some 15, V 2), (some 16, V 3), (some 17, V 4), (some 18, V 5), (some 19, V 6), (some 20, V 7), (some 21, V 8), (some 22, V 9)]) (by kernel_rfl) (by kernel_rfl) (by kernel_rfl) (fun V => rfl) ?_ ?_ ?_
    ·exact (Below.refl _ _).drew
    ·intro i o ho
     have hi : i < 10 := (Array.getElem?_eq_some_iff.1 ho).1
     rcases i with _ | _ | _ | _ | _ | _ | _ | _ | _ | _ | i
     rotate_right
     ·omega
     all_goals obtain rfl := Option.some.inj ho
     all_goals intro ρ wi hE hI hs hd
     all_goals try dsimp only at hI
     ·have e5 : ρ (.tmp 5) = .pointer (some ⟨wr.heap.size, 0, none⟩) := hs 5; exact Reg.gw hI
     ·obtain ⟨_, rfl, e13⟩ := hd 0 13; have x3 := (HXwc.out.later hI).cell (j := 3) rfl
      rw [HWT.out] at x3
      exact Reg.gw hI
     ·obtain ⟨_, rfl, e14⟩ := hd 1 14; exact Reg.gw hI
     ·have e0 : ρ (.tmp 0) = .pointer (some ⟨b, 0, none⟩) := hs 0
      refine Reg.yes ?_
      exact Reg.gw hI
     ·obtain ⟨_, rfl, e16⟩ := hd 3 16
      refine Reg.yes ?_
      exact Reg.gw hI
     ·obtain ⟨_, rfl, e17⟩ := hd 4 17
      refine Reg.yes ?_
      exact Reg.Gives.value (v := s.val y) (w' := wi) (exec_load _ _ rfl _ _ (by assumption) (state_load (HOwc.out.later hI))) (Reg.OwedH.same hI rfl)
     ·have e5 : ρ (.tmp 5) = .pointer (some ⟨wr.heap.size, 0, none⟩) := hs 5
      refine Reg.yes ?_
      exact Reg.gw hI
     ·obtain ⟨_, rfl, e19⟩ := hd 6 19
      refine Reg.yes ?_
      have x0 := (HXwc.out.later hI).cell (j := 0) rfl; exact Reg.gw hI
     ·obtain ⟨_, rfl, e18⟩ := hd 5 18; obtain ⟨_, rfl, e20⟩ := hd 7 20; have hf := hE.func
      refine Reg.yes ?_
      refine Reg.Gives.call (f := 42) (args := #[s.val y, .int .i64 x.cell]) (w' := wi) (by go_simp) ?_
      refine (has_any s y x.cell wi).mono ?_
      rintro e w'' ⟨rfl, hbb⟩
      exact ⟨_, rfl, ⟨rfl, hI.trans (hbb.mono hI.size), fun j u _ _ h => ledM_wr3t_later hbb h⟩⟩
     ·obtain ⟨_, rfl, e15⟩ := hd 2 15; obtain ⟨_, rfl, e21⟩ := hd 8 21; have hc := hE.const; exact Reg.gw hI
    ·intro V wd hV hI
     have hV9 : V 9 = .bool (hasC s x.cell) := hV 9 (by decide) rfl
     simp only [Reg.putsO, List.foldl_cons, List.foldl_nil, Act.put, List.setIfInBounds_toArray, List.set_cons_succ, List.set_cons_zero, hV9]
     replace hI : (fun a => Below wc.heap.size wc a) wd := hI
     clear hV hV9
     have HOwd := Lib.hid (HOwc.out.later hI)
     have HXwd := Lib.hid (HXwc.out.later hI)
     have HBwd := Lib.hid (HBwc.out.trans (hI.mono HBwc.out.size))
     clear hI
     cases hh : hasC s x.cell with
     | false =>
      have HS : Hid (writeL s0 (l.take (j0 + 1)) = s) := Lib.hid (by rw [HW.out]; unfold writeOne; rw [hh]; simp)
      have HO2 : Hid (Own base wd b (writeL s0 (l.take (j0 + 1))) y) := Lib.hid (by rw [HS.out]; exact HOwd.out)
      have HN2 := Lib.hid (HBASE.out wd HBwd.out)
      clear hh
      go_wp2_with fail
      go_roundw
      case rel => exact ⟨j0 + 1, by omega, by go_num, HO2, HN2⟩
      case measure => simp [intOf]; omega
     | true =>
      obtain ⟨pb, k, pl, hP, hk, hkl, hpl, hpa⟩ := HOwd.out.place hh
      have HPK := Lib.hid (And.intro hP (And.intro hk (And.intro hkl hpl)))
      have HS : Hid (writeL s0 (l.take (j0 + 1)) = wrS s k pl 0 0 0 (IntKind.i64.wrap (pl.version + 1)) x.new false false false true true) := Lib.hid (by
       rw [HW.out]
       unfold writeOne setPl wrS
       rw [if_pos ⟨HWT.out, hh⟩, hpa, hk, Int.toNat_natCast]
       rfl)
      clear hP hk hkl hpl hpa hh
      go_upto_region 4 with (fail)
      refine Reg.region_heavy (by kernel_rfl) 7 [7] (ledM_wr4 s y b pb k x wr.heap.size) (fun a => Below wd.heap.size wd a) (fun a => Below wd.heap.size wd a) (fun V => [(some 23, V 0), (some 24, V 1), (some 25, V 2), (some 26, V 3), (some 27, V 4), (some 28, V 5), (some 29, V 6), (some 6, V 7)]) (by kernel_rfl) (by kernel_rfl) (by kernel_rfl) (fun V => rfl) ?_ ?_ ?_
      ·exact (Below.refl _ _).drew
      ·intro i o ho
       have hi : i < 8 := (Array.getElem?_eq_some_iff.1 ho).1
       rcases i with _ | _ | _ | _ | _ | _ | _ | _ | i
       rotate_right
       ·omega
       all_goals obtain rfl := Option.some.inj ho
       all_goals intro ρ wi hE hI hs hd
       all_goals try dsimp only at hI
       ·have e0 : ρ (.tmp 0) = .pointer (some ⟨b, 0, none⟩) := hs 0; exact Reg.gw hI
       ·obtain ⟨_, rfl, e23⟩ := hd 0 23; exact Reg.gw hI
       ·obtain ⟨_, rfl, e24⟩ := hd 1 24; exact Reg.gw hI
       ·obtain ⟨_, rfl, e25⟩ := hd 2 25; have x0 := (HOwd.out.later hI).cel.cell (j := 4) rfl; exact Reg.gw hI
       ·have e5 : ρ (.tmp 5) = .pointer (some ⟨wr.heap.size, 0, none⟩) := hs 5; exact Reg.gw hI
       ·obtain ⟨_, rfl, e27⟩ := hd 4 27; have x0 := (HXwd.out.later hI).cell (j := 0) rfl; exact Reg.gw hI
       ·obtain ⟨_, rfl, e26⟩ := hd 3 26; obtain ⟨_, rfl, e28⟩ := hd 5 28; have hP := HPK.out.1; have hk := HPK.out.2.1; have hkl := HPK.out.2.2.1; exact Reg.gw hI
       ·obtain ⟨_, rfl, e29⟩ := hd 6 29; exact Reg.gw hI
      ·intro V we hV hI
       have hV7 : V 7 = .pointer (some ⟨pb, k * 5, none⟩) := hV 7 (by decide) rfl
       simp only [Reg.putsO, List.foldl_cons, List.foldl_nil, Act.put, List.setIfInBounds_toArray, List.set_cons_succ, List.set_cons_zero, hV7]
       replace hI : (fun a => Below wd.heap.size wd a) we := hI
       clear hV hV7
       have HOwe := Lib.hid (HOwd.out.later hI)
       have HXwe := Lib.hid (HXwd.out.later hI)
       have HBwe := Lib.hid (HBwd.out.trans (hI.mono HBwd.out.size))
       clear hI
       have HI : Own base we.drew b (wrS s k pl 0 0 0 (IntKind.i64.wrap (pl.version + 1)) x.new false false false false false) y ∧ Only (fun j => some j = blk y.P) we we.drew ∧ Cells we.drew wr.heap.size 72 x.vals := ⟨by rw [wrS_none HPK.out.2.2.2]; exact HOwe.out.later (Below.refl _ _).drew, Only.of_below (Below.refl _ _).drew, HXwe.out.later (Below.refl _ _).drew⟩
       go_upto_region 5 with (fail)
       refine Reg.region_inv (by kernel_rfl) (fun i => ([some (.pointer (some ⟨pb, k * 5, none⟩)), some (.pointer (some ⟨pb, k * 5, none⟩)), some (.pointer (some ⟨pb, k * 5, none⟩)), some (.pointer (some ⟨pb, k * 5, none⟩)), some (.pointer (some ⟨pb, k * 5 + 3, none⟩)), some (.int .i64 pl.version), some (.int .i64 (IntKind.i64.wrap (pl.version + 1))), some (.pointer (some ⟨wr.heap.size, 4, none⟩)), some (.int .i64 x.new), some (.pointer (some ⟨pb, k * 5, none⟩)), some (.pointer (some ⟨pb, k * 5 + 3, none⟩)), none, some (.pointer (some ⟨pb, k * 5, none⟩)), some (.pointer (some ⟨pb, k * 5 + 4, none⟩)), none] : List (Option Value)).getD i none) (fun D V W => Own base W b (wrS s k pl 0 0 0 (IntKind.i64.wrap (pl.version + 1)) x.new false false false (D 11) (D 14)) y ∧ Only (fun j => some j = blk y.P) we W ∧ Cells W wr.heap.size 72 x.vals) (fun V => [(some 30, V 0), (some 31, V 1), (some 32, V 2), (some 33, V 3), (some 34, V 4), (some 35, V 5), (some 36, V 6), (some 37, V 7), (some 38, V 8), (some 39, V 9), (some 40, V 10), (none, V 11), (some 41, V 12), (some 42, V 13), (none, V 14)]) (by kernel_rfl) (by kernel_rfl) (fun V => rfl) ?_ ?_ ?_
       ·intro V
        exact HI
       ·intro i o ho
        have hi : i < 15 := (Array.getElem?_eq_some_iff.1 ho).1
        rcases i with _ | _ | _ | _ | _ | _ | _ | _ | _ | _ | _ | _ | _ | _ | _ | i
        rotate_right
        ·omega
        all_goals obtain rfl := Option.some.inj ho
        all_goals intro D V ρ wi hE hI hDi hT hF hs hd hk
        ·have e6 : ρ (.tmp 6) = .pointer (some ⟨pb, k * 5, none⟩) := hs 6; clear hT hF hk
         exact Reg.Gives.value (v := .pointer (some ⟨pb, k * 5, none⟩)) (w' := wi) (by go_simp) ⟨fun x h => Option.some.inj h, hI⟩
        ·have e6 : ρ (.tmp 6) = .pointer (some ⟨pb, k * 5, none⟩) := hs 6; clear hT hF hk
         exact Reg.Gives.value (v := .pointer (some ⟨pb, k * 5, none⟩)) (w' := wi) (by go_simp) ⟨fun x h => Option.some.inj h, hI⟩
        ·have e6 : ρ (.tmp 6) = .pointer (some ⟨pb, k * 5, none⟩) := hs 6; clear hT hF hk
         exact Reg.Gives.value (v := .pointer (some ⟨pb, k * 5, none⟩)) (w' := wi) (by go_simp) ⟨fun x h => Option.some.inj h, hI⟩
        ·have e32 : ρ (.tmp 32) = .pointer (some ⟨pb, k * 5, none⟩) := (hd 2 32).trans (hk 2 _ rfl); clear hT hF hk
         exact Reg.Gives.value (v := .pointer (some ⟨pb, k * 5, none⟩)) (w' := wi) (by go_simp) ⟨fun x h => Option.some.inj h, hI⟩
        ·have e33 : ρ (.tmp 33) = .pointer (some ⟨pb, k * 5, none⟩) := (hd 3 33).trans (hk 3 _ rfl); clear hT hF hk
         exact Reg.Gives.value (v := .pointer (some ⟨pb, k * 5 + 3, none⟩)) (w' := wi) (by go_simp) ⟨fun x h => Option.some.inj h, hI⟩
        ·have e34 : ρ (.tmp 34) = .pointer (some ⟨pb, k * 5 + 3, none⟩) := (hd 4 34).trans (hk 4 _ rfl); have hD11 : D 11 = false := hF 1 11; clear hT hF; have x0 := hI.1.placeCell HPK.out.1 (wrS_at HPK.out.2.2.1) (j := 3) rfl
         simp only [hD11, cond_false] at x0
         exact Reg.Gives.value (v := .int .i64 pl.version) (w' := wi) (by go_simp) ⟨fun x h => Option.some.inj h, hI⟩
        ·have e35 : ρ (.tmp 35) = .int .i64 pl.version := (hd 5 35).trans (hk 5 _ rfl); have hc := hE.const; clear hT hF hk
         exact Reg.Gives.value (v := .int .i64 (IntKind.i64.wrap (pl.version + 1))) (w' := wi) (by go_simp) ⟨fun x h => Option.some.inj h, hI⟩
        ·have e5 : ρ (.tmp 5) = .pointer (some ⟨wr.heap.size, 0, none⟩) := hs 5; clear hT hF hk
         exact Reg.Gives.value (v := .pointer (some ⟨wr.heap.size, 4, none⟩)) (w' := wi) (by go_simp) ⟨fun x h => Option.some.inj h, hI⟩
        ·have e37 : ρ (.tmp 37) = .pointer (some ⟨wr.heap.size, 4, none⟩) := (hd 7 37).trans (hk 7 _ rfl); clear hT hF; have x0 := hI.2.2.cell (j := 4) rfl
         exact Reg.Gives.value (v := .int .i64 x.new) (w' := wi) (by go_simp) ⟨fun x h => Option.some.inj h, hI⟩
        ·have e30 : ρ (.tmp 30) = .pointer (some ⟨pb, k * 5, none⟩) := (hd 0 30).trans (hk 0 _ rfl); clear hT hF hk
         exact Reg.Gives.value (v := .pointer (some ⟨pb, k * 5, none⟩)) (w' := wi) (by go_simp) ⟨fun x h => Option.some.inj h, hI⟩
        ·have e39 : ρ (.tmp 39) = .pointer (some ⟨pb, k * 5, none⟩) := (hd 9 39).trans (hk 9 _ rfl); clear hT hF hk
         exact Reg.Gives.value (v := .pointer (some ⟨pb, k * 5 + 3, none⟩)) (w' := wi) (by go_simp) ⟨fun x h => Option.some.inj h, hI⟩
        ·have e40 : ρ (.tmp 40) = .pointer (some ⟨pb, k * 5 + 3, none⟩) := (hd 10 40).trans (hk 10 _ rfl); have e36 : ρ (.tmp 36) = .int .i64 (IntKind.i64.wrap (pl.version + 1)) := (hd 6 36).trans (hk 6 _ rfl); have hD11 : D 11 = false := hDi; clear hT hF
         rw [hD11] at hI
         have x0 := hI.1.placeCell HPK.out.1 (wrS_at HPK.out.2.2.1) (j := 3) rfl
         have x1 := hI.1.placeFree HPK.out.1 (k := k) (by rw [wrS_len]; exact HPK.out.2.2.1) (j := 3) (by decide)
         obtain ⟨i1, i2⟩ := wr_put3 hI.1 HPK.out.1 HPK.out.2.2.1
         exact Reg.Gives.skip (w' := wi.setCell ⟨pb, k * 5 + 3, none⟩ (.int .i64 (IntKind.i64.wrap (pl.version + 1)))) (by go_simp) ⟨fun x h => (by cases h), by show Own base (wi.setCell ⟨pb, k * 5 + 3, none⟩ (.int .i64 (IntKind.i64.wrap (pl.version + 1)))) b (wrS s k pl 0 0 0 (IntKind.i64.wrap (pl.version + 1)) x.new false false false true (D 14)) y ∧ Only (fun j => some j = blk y.P) we (wi.setCell ⟨pb, k * 5 + 3, none⟩ (.int .i64 (IntKind.i64.wrap (pl.version + 1)))) ∧ Cells (wi.setCell ⟨pb, k * 5 + 3, none⟩ (.int .i64 (IntKind.i64.wrap (pl.version + 1)))) wr.heap.size 72 x.vals; exact ⟨i1, hI.2.1.trans i2 fun _ _ e => e, cells_only hI.2.2 i2 HIP.out⟩⟩
        ·have e31 : ρ (.tmp 31) = .pointer (some ⟨pb, k * 5, none⟩) := (hd 1 31).trans (hk 1 _ rfl); clear hT hF hk
         exact Reg.Gives.value (v := .pointer (some ⟨pb, k * 5, none⟩)) (w' := wi) (by go_simp) ⟨fun x h => Option.some.inj h, hI⟩
        ·have e41 : ρ (.tmp 41) = .pointer (some ⟨pb, k * 5, none⟩) := (hd 12 41).trans (hk 12 _ rfl); clear hT hF hk
         exact Reg.Gives.value (v := .pointer (some ⟨pb, k * 5 + 4, none⟩)) (w' := wi) (by go_simp) ⟨fun x h => Option.some.inj h, hI⟩
        ·have e42 : ρ (.tmp 42) = .pointer (some ⟨pb, k * 5 + 4, none⟩) := (hd 13 42).trans (hk 13 _ rfl); have e38 : ρ (.tmp 38) = .int .i64 x.new := (hd 8 38).trans (hk 8 _ rfl); have hD14 : D 14 = false := hDi; clear hT hF
         rw [hD14] at hI
         have x0 := hI.1.placeCell HPK.out.1 (wrS_at HPK.out.2.2.1) (j := 4) rfl
         have x1 := hI.1.placeFree HPK.out.1 (k := k) (by rw [wrS_len]; exact HPK.out.2.2.1) (j := 4) (by decide)
         obtain ⟨i1, i2⟩ := wr_put4 hI.1 HPK.out.1 HPK.out.2.2.1
         exact Reg.Gives.skip (w' := wi.setCell ⟨pb, k * 5 + 4, none⟩ (.int .i64 (x.new))) (by go_simp) ⟨fun x h => (by cases h), by show Own base (wi.setCell ⟨pb, k * 5 + 4, none⟩ (.int .i64 (x.new))) b (wrS s k pl 0 0 0 (IntKind.i64.wrap (pl.version + 1)) x.new false false false (D 11) true) y ∧ Only (fun j => some j = blk y.P) we (wi.setCell ⟨pb, k * 5 + 4, none⟩ (.int .i64 (x.new))) ∧ Cells (wi.setCell ⟨pb, k * 5 + 4, none⟩ (.int .i64 (x.new))) wr.heap.size 72 x.vals; exact ⟨i1, hI.2.1.trans i2 fun _ _ e => e, cells_only hI.2.2 i2 HIP.out⟩⟩
       ·intro V wf hk hI
        simp only [Reg.putsO, List.foldl_cons, List.foldl_nil, Act.put, List.setIfInBounds_toArray, List.set_cons_succ, List.set_cons_zero]
        replace hI : Own base wf b (wrS s k pl 0 0 0 (IntKind.i64.wrap (pl.version + 1)) x.new false false false true true) y ∧ Only (fun j => some j = blk y.P) we wf ∧ Cells wf wr.heap.size 72 x.vals := hI
        clear hk
        have HO2 : Hid (Own base wf b (writeL s0 (l.take (j0 + 1))) y) := Lib.hid (by rw [HS.out]; exact hI.1)
        have HN2 := Lib.hid ((HBASE.out we HBwe.out).trans hI.2.1 fun _ _ e => e)
        clear hI HI
        go_wp2_with fail
        go_roundw
        case rel => exact ⟨j0 + 1, by omega, by go_num, HO2, HN2⟩
        case measure => simp [intOf]; omega
  ·have HF : Hid (Own base wr b (writeL s0 l) y) := Lib.hid (by
    have h := HOR.out
    rw [List.take_of_length_le (by have := HN.out; omega)] at h
    exact h)
   go_wp2_with fail
   go_returns
   exact ⟨rfl, HF.out, HON.out⟩
end Go.Proofs.YtalhbblmnahcdaaGreat.Led
