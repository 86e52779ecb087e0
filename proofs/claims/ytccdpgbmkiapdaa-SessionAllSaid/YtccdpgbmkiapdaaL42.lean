/-
  Layer 14, SessionOnce: put.
  Conditions: none.
-/
import Derived.Test.YtccdpgbmkiapdaaL39
namespace Go.Proofs.Ytccdpgbmkiapdaa.Ses
set_option maxRecDepth 100000
open Go.ChangeShapes Go.WideShapes Go.ChangeAt Go.RowKit Go.Deep Go.Proofs.Ytccdpgbmkiapdaa.Mem Go.Proofs.Ytccdpgbmkiapdaa.Win
theorem putW_nil {l : List Wy} (h : l.length ≤ 300) : putW l [] = l := by
 unfold putW
 rw [List.map_nil, List.append_nil, List.take_of_length_le h]
theorem putW_snoc (l : List Wy) (m : List Ot) (o : Ot) : putW l (m ++ [o]) = if (putW l m).length < 300 then putW l m ++ [⟨(o.dst - 1).toNat, o.e⟩] else putW l m := by
 unfold putW
 rw [List.map_append, ← List.append_assoc]
 generalize l ++ m.map (fun o => (⟨(o.dst - 1).toNat, o.e⟩ : Wy)) = z
 rw [List.length_take]
 split
 ·rw [List.take_of_length_le (by rw [List.length_append]; simp; omega), List.take_of_length_le (l := z) (by omega)]
  rfl
 ·rw [List.take_append_of_le_length (by omega)]
section
variable {B pb : Nat} {w w1 : World} {vs : List Value} {l2 l3 : List Wy} {V : Option Addr}
theorem WyStep.trans (ho : Only (fun k => k = pb ∨ blk V = some k) w w1) {V1 : Option Addr} {vc1 : Nat} (hg : ∀ k, blk V1 = some k → blk V = some k ∨ w.heap.size ≤ k) {w2 : World}
  (k : WyStep B w1 pb (vs.set 4 (.slice V1 l2.length vc1)) V1 l3 w2) : WyStep B w pb vs V l3 w2 := by
 obtain ⟨V2, vc2, h1, h2, h3⟩ := k
 rw [List.set_set] at h1
 refine ⟨V2, vc2, h1, ho.trans h2 fun k hk e => ?_, fun k e => ?_⟩
 ·rcases e with e | e
  ·exact Or.inl e
  ·rcases hg k e with e2 | e2
   ·exact Or.inr e2
   ·omega
 ·rcases h3 k e with e2 | e2
  ·exact hg k e2
  ·exact Or.inr (Nat.le_trans ho.size e2)
end
set_option maxHeartbeats 2000000 in
theorem put_any {B pb vc : Nat} {w : World} {vs : List Value} {l : List Wy} {VA : Option Addr} (h : WyAt B w pb vs l VA vc) (hB : B ≤ w.heap.size) (hl : l.length ≤ 300) (out : List Ot) (A : Option Addr) (c : Nat) (hs : Sl w A 6 (out.map Ot.vals)) (ho : out.length ≤ 90000)
  (hd : ∀ o ∈ out, 1 ≤ o.dst ∧ o.dst ≤ 16) (hA : ∀ k, blk A = some k → k ≠ pb ∧ blk VA ≠ some k) (hA2 : ∀ k, blk A = some k → k < w.heap.size) :
  Calls Try.prog 31 #[.pointer (some ⟨pb, 0, none⟩), .slice A out.length c] w fun e w' => e = .returned (.tuple #[]) ∧ WyStep B w pb vs VA (putW l out) w' := by
 obtain ⟨n, hn⟩ : ∃ n, out.length = n := ⟨_, rfl⟩
 have HN := Lib.hid hn
 have HS := Lib.hid hs
 have HW := Lib.hid h
 have HD := Lib.hid hd
 have HA := Lib.hid (And.intro hA hA2)
 have HL := Lib.hid hl
 have HB := Lib.hid hB
 rw [hn] at ho ⊢
 clear hn hs h hd hA hA2 hl hB
 go_enter Try.func31, Try.ntmps31
 go_wp2_with fail
 go_loopw [5, 8] (fun _ j wr => ∃ (k : Nat), k ≤ n ∧ j = .int .i64 (k : Int) ∧ Hid (WyStep B w pb vs VA (putW l (out.take k)) wr)) (fun _ j _ => n - (intOf j).toNat)
 case atStart => exact ⟨0, Nat.zero_le _, rfl, Lib.hid (by rw [List.take_zero, putW_nil HL.out]; exact WyStep.first HW.out)⟩
 case round =>
  obtain ⟨k, hkn, rfl, HST⟩ := hrel
  by_cases hlt : k < n
  ·obtain ⟨V1, vc1, hw1, ho1, hg1⟩ := HST.out
   have hkl : k < out.length := by rw [HN.out]; exact hlt
   obtain ⟨g, off, hAe, hr⟩ := HS.out k (by rw [List.length_map]; exact hkl)
   obtain ⟨hA1, hA2⟩ := HA.out.1 g (by rw [hAe]; rfl)
   have hA3 := HA.out.2 g (by rw [hAe]; rfl)
   obtain ⟨o, hoo⟩ : ∃ o, out[k] = o := ⟨_, rfl⟩
   rw [List.getElem_map, hoo] at hr
   obtain ⟨d1, d2⟩ := HD.out o (by rw [← hoo]; exact List.getElem_mem hkl)
   have hng : ¬ (g = pb ∨ blk VA = some g) := fun e => e.elim hA1 hA2
   have z0 : wr.cell? ⟨g, off + k * 6, none⟩ = _ := cell_only (hr 0 _ rfl) ho1 hng
   have z1 := cell_only (hr 1 _ rfl) ho1 hng
   have z2 := cell_only (hr 2 _ rfl) ho1 hng
   have z3 := cell_only (hr 3 _ rfl) ho1 hng
   have z4 := cell_only (hr 4 _ rfl) ho1 hng
   have z5 := cell_only (hr 5 _ rfl) ho1 hng
   obtain ⟨t, ht⟩ : ∃ t : Nat, (o.dst - 1).toNat = t := ⟨_, rfl⟩
   have ht2 : o.dst = (t : Int) + 1 := by omega
   have htk : putW l (out.take (k + 1)) = if (putW l (out.take k)).length < 300 then putW l (out.take k) ++ [⟨t, o.e⟩] else putW l (out.take k) := by
    rw [List.take_succ_eq_append_getElem hkl, hoo, putW_snoc, ht]
   obtain ⟨l1, hl1⟩ : ∃ l1, putW l (out.take k) = l1 := ⟨_, rfl⟩
   rw [hl1] at hw1 htk
   obtain ⟨n1, hn1⟩ : ∃ n1, l1.length = n1 := ⟨_, rfl⟩
   have HN1 := Lib.hid hn1
   have hfl : n1 ≤ 300 := by
    rw [← hn1, ← hl1]
    unfold putW
    rw [List.length_take]
    omega
   have HO1 := Lib.hid ho1
   have HG1 := Lib.hid hg1
   rw [hn1] at htk
   obtain ⟨vs1, hvs1⟩ : ∃ vs1, vs.set 4 (.slice V1 l1.length vc1) = vs1 := ⟨_, rfl⟩
   rw [hvs1] at hw1
   have HVS := Lib.hid hvs1
   obtain ⟨w3, hw3⟩ : ∃ W, W = wr.alloc (.cells #[.int .i64 ((t : Int) + 1), .int .i64 o.e.kind, .int .i64 o.e.epoch, .int .i64 o.e.peer, .int .i64 o.e.seq, .string o.e.pay] 89) := ⟨_, rfl⟩
   have hb3 : Below wr.heap.size wr w3 := by rw [hw3]; exact below_alloc _ _
   have hcx : Cells w3 wr.heap.size 89 [.int .i64 ((t : Int) + 1), .int .i64 o.e.kind, .int .i64 o.e.epoch, .int .i64 o.e.peer, .int .i64 o.e.seq, .string o.e.pay] := by rw [hw3]; exact cells_new _ _ _ _ rfl
   obtain ⟨kb, hkb⟩ : ∃ kb, wr.heap.size = kb := ⟨_, rfl⟩
   have HO3 : Hid (Only (fun k => k = pb ∨ blk VA = some k) w w3) := Lib.hid (ho1.trans (S' := fun _ => False) (Only.of_below hb3) fun _ _ e => e.elim)
   have HW3 := Lib.hid (hw1.later hb3)
   have HBW : Hid (B ≤ w3.heap.size) := Lib.hid (Nat.le_trans HB.out HO3.out.size)
   rw [hkb] at hcx
   have HCX := Lib.hid hcx
   have HTB : Hid ((t : Int) ≤ 16) := Lib.hid (by omega)
   have HFL : Hid (l1.length ≤ 1000) := Lib.hid (by rw [hn1]; omega)
   have x4 : w3.cell? ⟨pb, 4, none⟩ = some (.slice V1 n1 vc1) := by rw [← hn1]; exact HW3.out.box.cell (j := 4) HW3.out.at4
   subst hAe
   rw [ht2] at z0
   have HTK := Lib.hid htk
   clear hr hng hoo hkl d1 d2 ht ht2 htk hl1 hn1 hvs1 hw1 ho1 hg1 hb3 hcx hA1 hA2 hA3 HST
   go_upto_region 3 with (fail)
   rw [← hw3]
   clear hw3 hkb z0 z1 z2 z3 z4 z5
   by_cases h3 : n1 < 300
   ·have HTK2 : Hid (putW l (out.take (k + 1)) = l1 ++ [⟨t, o.e⟩]) := Lib.hid (by rw [HTK.out, if_pos h3])
    go_upto_region 4 with (fail)
    refine Reg.region_inv (by kernel_rfl) (fun i => ([some (.pointer (some ⟨pb, 0, none⟩)), some (.pointer (some ⟨pb, 0, none⟩)), some (.pointer (some ⟨pb, 0, none⟩)), some (.pointer (some ⟨pb, 4, none⟩)), some (.slice V1 n1 vc1), some (.pointer (some ⟨kb, 0, none⟩)), some (.int .i64 ((t : Int) + 1)), some (.int .i64 (t : Int)), some (.pointer (some ⟨kb, 1, none⟩)), some (.agg #[.int .i64 o.e.kind, .int .i64 o.e.epoch, .int .i64 o.e.peer, .int .i64 o.e.seq, .string o.e.pay]), some (.agg #[.int .i64 (t : Int), .int .i64 o.e.kind, .int .i64 o.e.epoch, .int .i64 o.e.peer, .int .i64 o.e.seq, .string o.e.pay]), none, none, some (.pointer (some ⟨pb, 0, none⟩)), some (.pointer (some ⟨pb, 4, none⟩)), none] : List (Option Value)).getD i none) (fun D V W => (D 12 = false → Below w3.heap.size w3 W ∧ (D 11 = true → ∃ kz, V 11 = Value.slice (some ⟨kz, 0, none⟩) 1 1 ∧ Cells W kz 134 (Wy.vals ⟨t, o.e⟩))) ∧ (D 12 = true → D 15 = false → WPend B w3 V1 l1 ⟨t, o.e⟩ (V 12) W) ∧ (D 15 = true → WyStep B w3 pb vs1 V1 (l1 ++ [⟨t, o.e⟩]) W)) (fun V => [(some 18, V 0), (some 19, V 1), (some 20, V 2), (some 21, V 3), (some 22, V 4), (some 23, V 5), (some 24, V 6), (some 25, V 7), (some 26, V 8), (some 27, V 9), (some 28, V 10), (some 29, V 11), (some 30, V 12), (some 31, V 13), (some 32, V 14), (none, V 15)]) (by kernel_rfl) (by kernel_rfl) (fun V => rfl) ?_ ?_ ?_
    ·intro V
     exact ⟨fun _ => ⟨(Below.refl _ _).drew, fun e => (by cases e)⟩, fun e => (by cases e), fun e => (by cases e)⟩
    ·intro i o ho
     have hi : i < 16 := (Array.getElem?_eq_some_iff.1 ho).1
     rcases i with _ | _ | _ | _ | _ | _ | _ | _ | _ | _ | _ | _ | _ | _ | _ | _ | i
     rotate_right
     ·omega
     all_goals obtain rfl := Option.some.inj ho
     all_goals intro D V ρ wi hE hI hDi hT hF hs hd hk
     ·have e0 : ρ (.tmp 0) = .pointer (some ⟨pb, 0, none⟩) := hs 0; clear hT hF hk
      exact Reg.Gives.value (v := .pointer (some ⟨pb, 0, none⟩)) (w' := wi) (by go_simp) ⟨fun x h => Option.some.inj h, hI⟩
     ·have e0 : ρ (.tmp 0) = .pointer (some ⟨pb, 0, none⟩) := hs 0; clear hT hF hk
      exact Reg.Gives.value (v := .pointer (some ⟨pb, 0, none⟩)) (w' := wi) (by go_simp) ⟨fun x h => Option.some.inj h, hI⟩
     ·have e19 : ρ (.tmp 19) = .pointer (some ⟨pb, 0, none⟩) := (hd 1 19).trans (hk 1 _ rfl); clear hT hF hk
      exact Reg.Gives.value (v := .pointer (some ⟨pb, 0, none⟩)) (w' := wi) (by go_simp) ⟨fun x h => Option.some.inj h, hI⟩
     ·have e20 : ρ (.tmp 20) = .pointer (some ⟨pb, 0, none⟩) := (hd 2 20).trans (hk 2 _ rfl); clear hT hF hk
      exact Reg.Gives.value (v := .pointer (some ⟨pb, 4, none⟩)) (w' := wi) (by go_simp) ⟨fun x h => Option.some.inj h, hI⟩
     ·have e21 : ρ (.tmp 21) = .pointer (some ⟨pb, 4, none⟩) := (hd 3 21).trans (hk 3 _ rfl); have hD12 : D 12 = false := hF 1 12; clear hT hF; have hL : Below w3.heap.size w3 wi := (hI.1 hD12).1; have x0 : wi.cell? ⟨pb, 4, none⟩ = _ := (HW3.out.box.later hL).cell (j := 4) HW3.out.at4
      rw [HN1.out] at x0
      exact Reg.Gives.value (v := .slice V1 n1 vc1) (w' := wi) (by go_simp) ⟨fun x h => Option.some.inj h, hI⟩
     ·have e5 : ρ (.tmp 5) = .pointer (some ⟨kb, 0, none⟩) := hs 5; clear hT hF hk
      exact Reg.Gives.value (v := .pointer (some ⟨kb, 0, none⟩)) (w' := wi) (by go_simp) ⟨fun x h => Option.some.inj h, hI⟩
     ·have e23 : ρ (.tmp 23) = .pointer (some ⟨kb, 0, none⟩) := (hd 5 23).trans (hk 5 _ rfl); have hD12 : D 12 = false := hF 4 12; clear hT hF; have hL : Below w3.heap.size w3 wi := (hI.1 hD12).1; have y0 := (HCX.out.later hL).cell (j := 0) rfl
      exact Reg.Gives.value (v := .int .i64 ((t : Int) + 1)) (w' := wi) (by go_simp) ⟨fun x h => Option.some.inj h, hI⟩
     ·have e24 : ρ (.tmp 24) = .int .i64 ((t : Int) + 1) := (hd 6 24).trans (hk 6 _ rfl); have hc := hE.const; clear hT hF
      have hw : IntKind.i64.wrap (t : Int) = (t : Int) := by rw [IntKind.wrap_i64]; have := HTB.out; omega
      exact Reg.Gives.value (v := .int .i64 (t : Int)) (w' := wi) (by go_simp) ⟨fun x h => Option.some.inj h, hI⟩
     ·have e5 : ρ (.tmp 5) = .pointer (some ⟨kb, 0, none⟩) := hs 5; clear hT hF hk
      exact Reg.Gives.value (v := .pointer (some ⟨kb, 1, none⟩)) (w' := wi) (by go_simp) ⟨fun x h => Option.some.inj h, hI⟩
     ·have e26 : ρ (.tmp 26) = .pointer (some ⟨kb, 1, none⟩) := (hd 8 26).trans (hk 8 _ rfl); have hD12 : D 12 = false := hF 3 12; clear hT hF; have hL : Below w3.heap.size w3 wi := (hI.1 hD12).1; have hq := HCX.out.later hL; have y1 := hq.cell (j := 1) rfl; have y2 := hq.cell (j := 2) rfl; have y3 := hq.cell (j := 3) rfl; have y4 := hq.cell (j := 4) rfl; have y5 := hq.cell (j := 5) rfl
      exact Reg.Gives.value (v := .agg #[.int .i64 o.e.kind, .int .i64 o.e.epoch, .int .i64 o.e.peer, .int .i64 o.e.seq, .string o.e.pay]) (w' := wi) (by go_simp) ⟨fun x h => Option.some.inj h, hI⟩
     ·have e25 : ρ (.tmp 25) = .int .i64 (t : Int) := (hd 7 25).trans (hk 7 _ rfl); have e27 : ρ (.tmp 27) = .agg #[.int .i64 o.e.kind, .int .i64 o.e.epoch, .int .i64 o.e.peer, .int .i64 o.e.seq, .string o.e.pay] := (hd 9 27).trans (hk 9 _ rfl); clear hT hF hk
      exact Reg.Gives.value (v := .agg #[.int .i64 (t : Int), .int .i64 o.e.kind, .int .i64 o.e.epoch, .int .i64 o.e.peer, .int .i64 o.e.seq, .string o.e.pay]) (w' := wi) (by go_simp) ⟨fun x h => Option.some.inj h, hI⟩
     ·have e28 : ρ (.tmp 28) = .agg #[.int .i64 (t : Int), .int .i64 o.e.kind, .int .i64 o.e.epoch, .int .i64 o.e.peer, .int .i64 o.e.seq, .string o.e.pay] := (hd 10 28).trans (hk 10 _ rfl); have hD12 : D 12 = false := hF 1 12; have hD15 : D 15 = false := hF 1 15; clear hT hF; have h1 := hI.1 hD12
      have hal := below_alloc wi (.cells #[.int .i64 (t : Int), .int .i64 o.e.kind, .int .i64 o.e.epoch, .int .i64 o.e.peer, .int .i64 o.e.seq, .string o.e.pay] 134)
      exact Reg.Gives.value (v := .slice (some ⟨wi.heap.size, 0, none⟩) 1 1) (w' := wi.alloc (.cells #[.int .i64 (t : Int), .int .i64 o.e.kind, .int .i64 o.e.epoch, .int .i64 o.e.peer, .int .i64 o.e.seq, .string o.e.pay] 134)) (by go_simp) ⟨fun x h => (by cases h), by show ((D 12) = false → Below w3.heap.size w3 (wi.alloc (.cells #[.int .i64 (t : Int), .int .i64 o.e.kind, .int .i64 o.e.epoch, .int .i64 o.e.peer, .int .i64 o.e.seq, .string o.e.pay] 134)) ∧ (true = true → ∃ kz, (Value.slice (some ⟨wi.heap.size, 0, none⟩) 1 1) = Value.slice (some ⟨kz, 0, none⟩) 1 1 ∧ Cells (wi.alloc (.cells #[.int .i64 (t : Int), .int .i64 o.e.kind, .int .i64 o.e.epoch, .int .i64 o.e.peer, .int .i64 o.e.seq, .string o.e.pay] 134)) kz 134 (Wy.vals ⟨t, o.e⟩))) ∧ ((D 12) = true → (D 15) = false → WPend B w3 V1 l1 ⟨t, o.e⟩ (V 12) (wi.alloc (.cells #[.int .i64 (t : Int), .int .i64 o.e.kind, .int .i64 o.e.epoch, .int .i64 o.e.peer, .int .i64 o.e.seq, .string o.e.pay] 134))) ∧ ((D 15) = true → WyStep B w3 pb vs1 V1 (l1 ++ [⟨t, o.e⟩]) (wi.alloc (.cells #[.int .i64 (t : Int), .int .i64 o.e.kind, .int .i64 o.e.epoch, .int .i64 o.e.peer, .int .i64 o.e.seq, .string o.e.pay] 134))); exact ⟨fun _ => ⟨h1.1.trans (hal.mono h1.1.size), fun _ => ⟨_, rfl, cells_new _ _ _ _ rfl⟩⟩, fun e => (by rw [hD12] at e; cases e), fun e => (by rw [hD15] at e; cases e)⟩⟩
     ·have e22 : ρ (.tmp 22) = .slice V1 n1 vc1 := (hd 4 22).trans (hk 4 _ rfl); have e29 : ρ (.tmp 29) = V 11 := hd 11 29; have hD11 : D 11 = true := hT 1 11; have hD12 : D 12 = false := hDi; have hD15 : D 15 = false := hF 1 15; clear hT hF; have h1 := hI.1 hD12; obtain ⟨kk, hv2, hcs⟩ := h1.2 hD11
      rw [hv2] at e29
      obtain ⟨v2, w5, hrun, hpd⟩ := HW3.out.grow HBW.out h1.1 hcs HFL.out
      rw [HN1.out] at hrun
      exact Reg.Gives.value (v := v2) (w' := w5) (Reg.exec_append rfl e22 e29 hrun) ⟨fun x h => (by cases h), by show (true = false → Below w3.heap.size w3 w5 ∧ ((D 11) = true → ∃ kz, (V 11) = Value.slice (some ⟨kz, 0, none⟩) 1 1 ∧ Cells w5 kz 134 (Wy.vals ⟨t, o.e⟩))) ∧ (true = true → (D 15) = false → WPend B w3 V1 l1 ⟨t, o.e⟩ v2 w5) ∧ ((D 15) = true → WyStep B w3 pb vs1 V1 (l1 ++ [⟨t, o.e⟩]) w5); exact ⟨fun e => (by cases e), fun _ _ => hpd, fun e => (by rw [hD15] at e; cases e)⟩⟩
     ·have e18 : ρ (.tmp 18) = .pointer (some ⟨pb, 0, none⟩) := (hd 0 18).trans (hk 0 _ rfl); clear hT hF hk
      exact Reg.Gives.value (v := .pointer (some ⟨pb, 0, none⟩)) (w' := wi) (by go_simp) ⟨fun x h => Option.some.inj h, hI⟩
     ·have e31 : ρ (.tmp 31) = .pointer (some ⟨pb, 0, none⟩) := (hd 13 31).trans (hk 13 _ rfl); clear hT hF hk
      exact Reg.Gives.value (v := .pointer (some ⟨pb, 4, none⟩)) (w' := wi) (by go_simp) ⟨fun x h => Option.some.inj h, hI⟩
     ·have e32 : ρ (.tmp 32) = .pointer (some ⟨pb, 4, none⟩) := (hd 14 32).trans (hk 14 _ rfl); have e30 : ρ (.tmp 30) = V 12 := hd 12 30; have hD12 : D 12 = true := hT 1 12; have hD15 : D 15 = false := hDi; clear hT hF; have h2 := hI.2.1 hD12 hD15; obtain ⟨A2, n2, c2, hv2, x1, x2, hfin⟩ := h2.put HW3.out; have e9 := e30
      rw [hv2] at e9
      clear e30
      exact Reg.Gives.skip (w' := wi.setCell ⟨pb, 4, none⟩ (.slice A2 n2 c2)) (by go_simp) ⟨fun x h => (by cases h), by show ((D 12) = false → Below w3.heap.size w3 (wi.setCell ⟨pb, 4, none⟩ (.slice A2 n2 c2)) ∧ ((D 11) = true → ∃ kz, (V 11) = Value.slice (some ⟨kz, 0, none⟩) 1 1 ∧ Cells (wi.setCell ⟨pb, 4, none⟩ (.slice A2 n2 c2)) kz 134 (Wy.vals ⟨t, o.e⟩))) ∧ ((D 12) = true → true = false → WPend B w3 V1 l1 ⟨t, o.e⟩ (V 12) (wi.setCell ⟨pb, 4, none⟩ (.slice A2 n2 c2))) ∧ (true = true → WyStep B w3 pb vs1 V1 (l1 ++ [⟨t, o.e⟩]) (wi.setCell ⟨pb, 4, none⟩ (.slice A2 n2 c2))); exact ⟨fun e => (by rw [hD12] at e; cases e), fun _ e => (by cases e), fun _ => hfin⟩⟩
    ·intro V w4 hk hI
     simp only [Reg.putsO, List.foldl_cons, List.foldl_nil, Act.put, List.setIfInBounds_toArray, List.set_cons_succ, List.set_cons_zero]
     replace hI : ((fun _ => true) 12 = false → Below w3.heap.size w3 w4 ∧ ((fun _ => true) 11 = true → ∃ kz, V 11 = Value.slice (some ⟨kz, 0, none⟩) 1 1 ∧ Cells w4 kz 134 (Wy.vals ⟨t, o.e⟩))) ∧ ((fun _ => true) 12 = true → (fun _ => true) 15 = false → WPend B w3 V1 l1 ⟨t, o.e⟩ (V 12) w4) ∧ ((fun _ => true) 15 = true → WyStep B w3 pb vs1 V1 (l1 ++ [⟨t, o.e⟩]) w4) := hI
     clear hk
     have hst4 := hI.2.2 rfl
     rw [← HVS.out] at hst4
     have HF : Hid (WyStep B w pb vs VA (putW l (out.take (k + 1))) w4) := Lib.hid (by rw [HTK2.out]; exact WyStep.trans HO3.out HG1.out hst4)
     clear hI hst4
     go_wp2_with fail
     go_roundw
     case rel => exact ⟨k + 1, by omega, by go_num, HF⟩
     case measure => simp [intOf]; omega
   ·have HF : Hid (WyStep B w pb vs VA (putW l (out.take (k + 1))) w3) := Lib.hid (by
     rw [HTK.out, if_neg h3]
     exact ⟨V1, vc1, by rw [HVS.out]; exact HW3.out, HO3.out, HG1.out⟩)
    go_wp2_with fail
    go_roundw
    case rel => exact ⟨k + 1, by omega, by go_num, HF⟩
    case measure => simp [intOf]; omega
  ·obtain rfl : k = n := by omega
   have HF : Hid (WyStep B w pb vs VA (putW l out) wr) := Lib.hid (by
    have h1 := HST.out
    rwa [List.take_of_length_le (by rw [HN.out]; exact Nat.le_refl _)] at h1)
   go_wp2_with fail
   go_returns
   exact ⟨rfl, HF.out⟩
end Go.Proofs.Ytccdpgbmkiapdaa.Ses
