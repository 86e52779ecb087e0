/-
  Layer 14: payloads as they go out, an Ack; payloads are held.
  Conditions: none.
-/
import Derived.Test.YtccdpgbmkiapdaaL14
namespace Go.Proofs.Ytccdpgbmkiapdaa.Ses
set_option maxRecDepth 100000
open Go.RowKit Go.Deep Go.Proofs.Ytccdpgbmkiapdaa.Mem Go.Proofs.Ytccdpgbmkiapdaa.Win
def sesAck (sb : Nat) (x q ep kn : Int) : Nat → Value → World → Prop
 | 0, v, _ => v = .int .i64 x
 | 1, v, _ => v = .pointer (some ⟨sb, 0, none⟩)
 | 2, v, _ => v = .pointer (some ⟨sb, 0, none⟩)
 | 3, v, _ => v = .pointer (some ⟨sb, 1, none⟩)
 | 4, v, _ => v = .int .i64 ep
 | 5, v, _ => v = .pointer (some ⟨sb, 0, none⟩)
 | 6, v, _ => v = .int .i64 x
 | 7, v, _ => v = .int .i64 kn
 | 8, v, _ => v = .int .i64 q
 | 9, v, _ => v = .agg #[.int .i64 2, .int .i64 ep, .int .i64 kn, .int .i64 q, .string ⟨#[]⟩]
 | 10, v, _ => v = .agg #[.int .i64 x, .int .i64 2, .int .i64 ep, .int .i64 kn, .int .i64 q, .string ⟨#[]⟩]
 | 11, _, _ => True
 | _, _, _ => True
theorem sesAck_keep {sb : Nat} {x q ep kn : Int} {j : Nat} {v : Value} {w w' : World}  (h : sesAck sb x q ep kn j v w) : sesAck sb x q ep kn j v w' := by
 match j, h with
 | 0, h | 1, h | 2, h | 3, h | 4, h | 5, h | 6, h | 7, h | 8, h | 9, h | 10, h | 11, h => exact h
 | _ + 12, _ => exact trivial
def sesData (sb g B : Nat) (x ep kn : Int) (p : Hd) (V0 : Option Addr) (vn vc : Nat) (lq : List Ot) : Nat → Value → World → Prop
 | 0, v, _ => v = .slice V0 vn vc
 | 1, v, _ => v = .int .i64 x
 | 2, v, _ => v = .pointer (some ⟨sb, 0, none⟩)
 | 3, v, _ => v = .pointer (some ⟨sb, 0, none⟩)
 | 4, v, _ => v = .pointer (some ⟨sb, 1, none⟩)
 | 5, v, _ => v = .int .i64 ep
 | 6, v, _ => v = .pointer (some ⟨sb, 0, none⟩)
 | 7, v, _ => v = .int .i64 x
 | 8, v, _ => v = .int .i64 kn
 | 9, v, _ => v = .pointer (some ⟨g, 0, none⟩)
 | 10, v, _ => v = .int .i64 p.seq
 | 11, v, _ => v = .pointer (some ⟨g, 1, none⟩)
 | 12, v, _ => v = .string p.pay
 | 13, v, _ => v = .string p.pay
 | 14, v, _ => v = .agg #[.int .i64 1, .int .i64 ep, .int .i64 kn, .int .i64 p.seq, .string p.pay]
 | 15, v, _ => v = .agg #[.int .i64 x, .int .i64 1, .int .i64 ep, .int .i64 kn, .int .i64 p.seq, .string p.pay]
 | 16, v, w => ∃ kk, v = .slice (some ⟨kk, 0, none⟩) 1 1 ∧ Cells w kk 89 (Ot.vals (outH x ep kn p))
 | 17, v, w => OwnG 89 6 Ot.vals B w v (lq ++ [outH x ep kn p])
 | 18, v, w => OwnG 89 6 Ot.vals B w v (lq ++ [outH x ep kn p])
 | _, _, _ => True
theorem sesData_later {sb g B : Nat} {x ep kn : Int} {p : Hd} {V0 : Option Addr} {vn vc : Nat} {lq : List Ot} {j : Nat} {v : Value} {w w' : World} (hb : Below w.heap.size w w') (h : sesData sb g B x ep kn p V0 vn vc lq j v w) : sesData sb g B x ep kn p V0 vn vc lq j v w' := by
 match j, h with
 | 0, h | 1, h | 2, h | 3, h | 4, h | 5, h | 6, h | 7, h | 8, h | 9, h | 10, h | 11, h | 12, h | 13, h | 14, h | 15, h => exact h
 | 16, h =>
  obtain ⟨kk, h1, h2⟩ := h
  exact ⟨kk, h1, h2.later hb⟩
 | 17, h =>
  exact OwnG.later h hb
 | 18, h =>
  exact OwnG.later h hb
 | _ + 19, _ => exact trivial
theorem sesData_keep {sb g B : Nat} {x ep kn : Int} {p : Hd} {V0 : Option Addr} {vn vc : Nat} {lq : List Ot} {j : Nat} {v : Value} {w w' : World} (h16 : j ≠ 16) (h17 : j ≠ 17) (h18 : j ≠ 18) (h : sesData sb g B x ep kn p V0 vn vc lq j v w) : sesData sb g B x ep kn p V0 vn vc lq j v w' := by
 match j, h with
 | 0, h | 1, h | 2, h | 3, h | 4, h | 5, h | 6, h | 7, h | 8, h | 9, h | 10, h | 11, h | 12, h | 13, h | 14, h | 15, h => exact h
 | 16, _ => exact absurd rfl h16
 | 17, _ => exact absurd rfl h17
 | 18, _ => exact absurd rfl h18
 | _ + 19, _ => exact trivial
section
variable {B sb pb : Nat} {F : Nat → Prop} {w : World} {S : Sm} {As : Nat → Option Addr} {cs : Nat → Nat}
set_option maxHeartbeats 1000000 in
theorem ack_any (h : SAtX B F w sb S pb As cs) (hn : S.peers.length ≤ 16) (i : Nat) (hi : i < S.peers.length) (hne : (i : Int) + 1 ≠ S.node) (q : Int) :
  Calls Try.prog 53 #[.pointer (some ⟨sb, 0, none⟩), .int .i64 ((i : Int) + 1), .int .i64 q] w fun e w' => e = .returned (.agg #[.int .i64 ((i : Int) + 1), .int .i64 2, .int .i64 S.epoch, .int .i64 S.peers[i].known, .int .i64 q, .string ⟨#[]⟩]) ∧ Below w.heap.size w w' := by
 obtain ⟨wa, hwa⟩ : ∃ W, W = w.alloc (.cells #[.int .i64 0, .int .i64 0, .int .i64 0, .int .i64 0, .int .i64 0, .string ⟨#[]⟩] 89) := ⟨_, rfl⟩
 have hba : Below w.heap.size w wa := by rw [hwa]; exact below_alloc _ _
 have hca : Cells wa w.heap.size 89 [.int .i64 0, .int .i64 0, .int .i64 0, .int .i64 0, .int .i64 0, .string ⟨#[]⟩] := by rw [hwa]; exact cells_new _ _ _ _ rfl
 have ha := h.later hba
 obtain ⟨kn, hkn⟩ : ∃ n, S.peers[i].known = n := ⟨_, rfl⟩
 obtain ⟨ep, hep⟩ : ∃ n, S.epoch = n := ⟨_, rfl⟩
 obtain ⟨x, hx⟩ : ∃ x, (i : Int) + 1 = x := ⟨_, rfl⟩
 have HK : Hid (∀ wi, Below wa.heap.size wa wi → Calls Try.prog 28 #[.pointer (some ⟨sb, 0, none⟩), .int .i64 x] wi fun e w' => e = .returned (.int .i64 kn) ∧ w' = wi) := Lib.hid fun wi hb => by
  have h1 := Known_some (ha.later hb) hn i hi hne
  rw [hkn, hx] at h1
  exact h1
 have hcs := ha.cel
 rw [hep] at hcs
 have HS : Hid (Cells wa sb 111 [.int .i64 S.node, .int .i64 ep, .slice (some ⟨pb, 0, none⟩) S.peers.length S.peers.length]) := Lib.hid hcs
 have HC := Lib.hid hca
 have HB := Lib.hid hba
 rw [hkn, hep, hx]
 clear h hba hca ha hkn hep hcs hi hne hx
 go_enter Try.func53, Try.ntmps53
 go_upto_region 1 with (fail)
 rw [← hwa]
 clear hwa
 refine Reg.region_heavy (by kernel_rfl) 11 [] (sesAck sb x q ep kn) (fun a => Below wa.heap.size wa a) (fun a => Cells a w.heap.size 89 (Ot.vals ⟨x, 2, ep, kn, q, ⟨#[]⟩⟩) ∧ Only (fun k => k = w.heap.size) wa a) (fun V => [(some 7, V 0), (some 8, V 1), (some 9, V 2), (some 10, V 3), (some 11, V 4), (some 12, V 5), (some 13, V 6), (some 14, V 7), (some 15, V 8), (some 16, V 9), (some 17, V 10), (none, V 11)]) (by kernel_rfl) (by kernel_rfl) (by kernel_rfl) (fun V => rfl) ?_ ?_ ?_
 ·exact (Below.refl _ _).drew
 ·intro i o ho
  have hi : i < 12 := (Array.getElem?_eq_some_iff.1 ho).1
  rcases i with _ | _ | _ | _ | _ | _ | _ | _ | _ | _ | _ | _ | i
  rotate_right
  ·omega
  all_goals obtain rfl := Option.some.inj ho
  all_goals intro ρ wi hE hI hs hd
  all_goals try dsimp only at hI
  ·have e1 : ρ (.tmp 1) = .int .i64 x := hs 1; exact Reg.gw hI
  ·have e0 : ρ (.tmp 0) = .pointer (some ⟨sb, 0, none⟩) := hs 0; exact Reg.gw hI
  ·obtain ⟨_, rfl, e8⟩ := hd 1 8; exact Reg.gw hI
  ·obtain ⟨_, rfl, e9⟩ := hd 2 9; exact Reg.gw hI
  ·obtain ⟨_, rfl, e10⟩ := hd 3 10; have x0 := (HS.out.later hI).cell (j := 1) rfl; exact Reg.gw hI
  ·have e0 : ρ (.tmp 0) = .pointer (some ⟨sb, 0, none⟩) := hs 0; exact Reg.gw hI
  ·have e1 : ρ (.tmp 1) = .int .i64 x := hs 1; exact Reg.gw hI
  ·obtain ⟨_, rfl, e12⟩ := hd 5 12; obtain ⟨_, rfl, e13⟩ := hd 6 13; have hf := hE.func
   refine Reg.Gives.call (f := 28) (args := #[.pointer (some ⟨sb, 0, none⟩), .int .i64 x]) (w' := wi) (by go_simp) ?_
   refine (HK.out wi hI).mono ?_
   rintro e w'' ⟨rfl, rfl⟩
   exact ⟨_, rfl, Reg.OwedH.same hI rfl⟩
  ·have e2 : ρ (.tmp 2) = .int .i64 q := hs 2; exact Reg.gw hI
  ·obtain ⟨_, rfl, e11⟩ := hd 4 11; obtain ⟨_, rfl, e14⟩ := hd 7 14; obtain ⟨_, rfl, e15⟩ := hd 8 15; have hc := hE.const; exact Reg.gw hI
  ·obtain ⟨_, rfl, e7⟩ := hd 0 7; obtain ⟨_, rfl, e16⟩ := hd 9 16; exact Reg.gw hI
  ·have e6 : ρ (.tmp 6) = .pointer (some ⟨w.heap.size, 0, none⟩) := hs 6; obtain ⟨_, rfl, e17⟩ := hd 10 17; obtain ⟨k1, k2⟩ := (HC.out.later hI).put (l := Ot.vals ⟨x, 2, ep, kn, q, ⟨#[]⟩⟩) rfl; have k3 := (HC.out.later hI).there (n := 6) (Nat.le_refl 6)
   exact Reg.Gives.skip (exec_store 89 _ _ rfl w.heap.size 0 #[.int .i64 x, .int .i64 2, .int .i64 ep, .int .i64 kn, .int .i64 q, .string ⟨#[]⟩] (by assumption) (by assumption) (run_storeVar_mid _ w.heap.size 0 89 #[.int .i64 x, .int .i64 2, .int .i64 ep, .int .i64 kn, .int .i64 q, .string ⟨#[]⟩] k3 (by kernel_rfl) (by simp [Value.oneCell']))) ⟨trivial, ⟨k1, (Only.of_below hI).trans k2 fun _ _ e => e⟩, fun _ _ _ _ h => sesAck_keep h⟩
 ·intro V wb hV hI
  simp only [Reg.putsO, List.foldl_cons, List.foldl_nil, Act.put, List.setIfInBounds_toArray, List.set_cons_succ, List.set_cons_zero]
  replace hI : (fun a => Cells a w.heap.size 89 (Ot.vals ⟨x, 2, ep, kn, q, ⟨#[]⟩⟩) ∧ Only (fun k => k = w.heap.size) wa a) wb := hI
  clear hV
  obtain ⟨hk1, hk2⟩ := hI
  have HPT := Lib.hid hk1
  have HOV := Lib.hid hk2
  clear hk1 hk2
  go_wp2_with fail
  refine bodyPost_ret (v := .agg #[.int .i64 x, .int .i64 2, .int .i64 ep, .int .i64 kn, .int .i64 q, .string ⟨#[]⟩]) ?_ rfl ?_
  ·exact (ret_cell (p := 6) (ty := 89) (by rfl) _ HPT.out _ (by rfl) Try.underlying89 rfl (by kernel_rfl)).trans (by rfl)
  ·exact ⟨rfl, HB.out.trans (HOV.out.below HB.out.size fun k e => by rw [e]; exact Nat.le_refl _)⟩
set_option maxHeartbeats 1000000 in
theorem data_any (h : SAtX B F w sb S pb As cs) (hn : S.peers.length ≤ 16) (i : Nat) (hi : i < S.peers.length) (hne : (i : Int) + 1 ≠ S.node) (A : Option Addr) (l : List Hd) (c : Nat) (hs : Sl w A 4 (l.map Hd.vals)) (hl : l.length ≤ 1000) (hp : ∀ x ∈ l, x.pay.size ≤ 140737488355328) :
  Calls Try.prog 49 #[.pointer (some ⟨sb, 0, none⟩), .int .i64 ((i : Int) + 1), .slice A l.length c] w fun e w' => ∃ V vn vc, e = .returned (.slice V vn vc) ∧ OwnG 89 6 Ot.vals w.heap.size w' (.slice V vn vc) (dataL ((i : Int) + 1) S.epoch S.peers[i].known l) ∧ Below w.heap.size w w' := by
 have HSX := Lib.hid h
 have HSL := Lib.hid hs
 have HPS := Lib.hid hp
 obtain ⟨kn, hkn⟩ : ∃ n, S.peers[i].known = n := ⟨_, rfl⟩
 obtain ⟨ep, hep⟩ : ∃ n, S.epoch = n := ⟨_, rfl⟩
 obtain ⟨x, hx⟩ : ∃ x, (i : Int) + 1 = x := ⟨_, rfl⟩
 have HKA : Hid (∀ wr, Below w.heap.size w wr → Calls Try.prog 28 #[.pointer (some ⟨sb, 0, none⟩), .int .i64 x] wr fun e w' => e = .returned (.int .i64 kn) ∧ w' = wr) := Lib.hid fun wr hb => by
  have h1 := Known_some (h.later hb) hn i hi hne
  rw [hkn, hx] at h1
  exact h1
 have HEP := Lib.hid hep
 obtain ⟨n, hn2⟩ : ∃ n, l.length = n := ⟨_, rfl⟩
 have HN := Lib.hid hn2
 rw [hkn, hep, hx]
 rw [hn2] at hl ⊢
 unfold dataL
 clear h hs hp hkn hep hi hne hx hn2
 go_enter Try.func49, Try.ntmps49
 go_wp2_with fail
 go_loopw [7, 9, 12] (fun a _ j wr => ∃ (k : Nat) (V0 : Option Addr) (vn vc : Nat), k ≤ n ∧ j = .int .i64 (k : Int) ∧ a = .slice V0 vn vc ∧ Hid (OwnG 89 6 Ot.vals w.heap.size wr (.slice V0 vn vc) ((l.take k).map (outH x ep kn))) ∧ Hid (Below w.heap.size w wr)) (fun _ _ j _ => n - (intOf j).toNat)
 case atStart => exact ⟨0, none, 0, 0, Nat.zero_le _, rfl, rfl, Lib.hid (OwnG.nil _ _ _ _ _), Lib.hid (Below.refl _ _)⟩
 case round =>
  obtain ⟨k, V0, vn, vc, hkn, rfl, rfl, HR, HBR⟩ := hrel
  by_cases hlt : k < n
  ·have hkl : k < l.length := by rw [HN.out]; exact hlt
   obtain ⟨g, off, rfl, hr⟩ := (HSL.out.later HBR.out) k (by rw [List.length_map]; exact hkl)
   obtain ⟨p, hpk⟩ : ∃ p, l[k] = p := ⟨_, rfl⟩
   rw [List.getElem_map, hpk] at hr
   have x0 := hr 0 _ rfl
   rw [Nat.add_zero] at x0
   have x1 := hr 1 _ rfl
   have x2 := hr 2 _ rfl
   have x3 := hr 3 _ rfl
   obtain ⟨we, hwe⟩ : ∃ W, W = wr.alloc (.cells #[.int .i64 p.seq, .string p.pay, .int .i64 p.delay, .int .i64 p.left] 144) := ⟨_, rfl⟩
   have hbe : Below wr.heap.size wr we := by rw [hwe]; exact below_alloc _ _
   have hce : Cells we wr.heap.size 144 p.vals := by rw [hwe]; exact cells_new _ _ _ _ rfl
   have HBE : Hid (Below w.heap.size w we) := Lib.hid (HBR.out.trans (hbe.mono HBR.out.size))
   have HS := Lib.hid (HSX.out.later HBE.out)
   have HC := Lib.hid hce
   have HK : Hid (∀ wi, Below we.heap.size we wi → Calls Try.prog 28 #[.pointer (some ⟨sb, 0, none⟩), .int .i64 x] wi fun e w' => e = .returned (.int .i64 kn) ∧ w' = wi) := Lib.hid fun wi hb => HKA.out wi (HBE.out.trans (hb.mono HBE.out.size))
   have HP : Hid (p.pay.size ≤ 140737488355328) := Lib.hid (HPS.out p (by rw [← hpk]; exact List.getElem_mem hkl))
   have HOW := Lib.hid (HR.out.later hbe)
   have HLK : Hid (k ≤ 1000) := Lib.hid (by omega)
   have HT : Hid ((l.take (k + 1)).map (outH x ep kn) = (l.take k).map (outH x ep kn) ++ [outH x ep kn p]) := Lib.hid (by rw [List.take_succ_eq_append_getElem hkl, hpk, List.map_append]; rfl)
   clear hr hpk hbe hce hkl HR
   go_upto_region 5 with (fail)
   rw [← hwe]
   clear hwe x0 x1 x2 x3
   refine Reg.region_heavy (by kernel_rfl) 17 [18] (sesData sb wr.heap.size w.heap.size x ep kn p V0 vn vc ((l.take k).map (outH x ep kn))) (fun a => Below we.heap.size we a) (fun a => Below w.heap.size w a) (fun V => [(some 16, V 0), (some 17, V 1), (some 18, V 2), (some 19, V 3), (some 20, V 4), (some 21, V 5), (some 22, V 6), (some 23, V 7), (some 24, V 8), (some 25, V 9), (some 26, V 10), (some 27, V 11), (some 28, V 12), (some 29, V 13), (some 30, V 14), (some 31, V 15), (some 32, V 16), (some 33, V 17), (some 7, V 18)]) (by kernel_rfl) (by kernel_rfl) (by kernel_rfl) (fun V => rfl) ?_ ?_ ?_
   ·exact (Below.refl _ _).drew
   ·intro i o ho
    have hi : i < 19 := (Array.getElem?_eq_some_iff.1 ho).1
    rcases i with _ | _ | _ | _ | _ | _ | _ | _ | _ | _ | _ | _ | _ | _ | _ | _ | _ | _ | _ | i
    rotate_right
    ·omega
    all_goals obtain rfl := Option.some.inj ho
    all_goals intro ρ wi hE hI hs hd
    all_goals try dsimp only at hI
    ·have e7 : ρ (.tmp 7) = .slice V0 vn vc := hs 7; exact Reg.gw hI
    ·have e1 : ρ (.tmp 1) = .int .i64 x := hs 1; exact Reg.gw hI
    ·have e0 : ρ (.tmp 0) = .pointer (some ⟨sb, 0, none⟩) := hs 0; exact Reg.gw hI
    ·obtain ⟨_, rfl, e18⟩ := hd 2 18; exact Reg.gw hI
    ·obtain ⟨_, rfl, e19⟩ := hd 3 19; exact Reg.gw hI
    ·obtain ⟨_, rfl, e20⟩ := hd 4 20; have x0 := (HS.out.later hI).cel.cell (j := 1) rfl
     rw [HEP.out] at x0
     exact Reg.gw hI
    ·have e0 : ρ (.tmp 0) = .pointer (some ⟨sb, 0, none⟩) := hs 0; exact Reg.gw hI
    ·have e1 : ρ (.tmp 1) = .int .i64 x := hs 1; exact Reg.gw hI
    ·obtain ⟨_, rfl, e22⟩ := hd 6 22; obtain ⟨_, rfl, e23⟩ := hd 7 23; have hf := hE.func
     refine Reg.Gives.call (f := 28) (args := #[.pointer (some ⟨sb, 0, none⟩), .int .i64 x]) (w' := wi) (by go_simp) ?_
     refine (HK.out wi hI).mono ?_
     rintro e w'' ⟨rfl, rfl⟩
     exact ⟨_, rfl, Reg.OwedH.same hI rfl⟩
    ·have e9 : ρ (.tmp 9) = .pointer (some ⟨wr.heap.size, 0, none⟩) := hs 9; exact Reg.gw hI
    ·obtain ⟨_, rfl, e25⟩ := hd 9 25; have x0 := (HC.out.later hI).cell (j := 0) rfl; exact Reg.gw hI
    ·have e9 : ρ (.tmp 9) = .pointer (some ⟨wr.heap.size, 0, none⟩) := hs 9; exact Reg.gw hI
    ·obtain ⟨_, rfl, e27⟩ := hd 11 27; have x1 := (HC.out.later hI).cell (j := 1) rfl; exact Reg.gw hI
    ·obtain ⟨_, rfl, e28⟩ := hd 12 28; have hf := hE.func
     refine Reg.Gives.call (f := 56) (args := #[.string p.pay]) (w' := wi) (by go_simp) ?_
     refine (clone_any p.pay wi HP.out).mono ?_
     rintro e w'' ⟨rfl, hbb⟩
     exact ⟨_, rfl, ⟨rfl, hI.trans (hbb.mono hI.size), fun j u _ _ h => sesData_later hbb h⟩⟩
    ·obtain ⟨_, rfl, e21⟩ := hd 5 21; obtain ⟨_, rfl, e24⟩ := hd 8 24; obtain ⟨_, rfl, e26⟩ := hd 10 26; obtain ⟨_, rfl, e29⟩ := hd 13 29; have hc := hE.const; exact Reg.gw hI
    ·obtain ⟨_, rfl, e17⟩ := hd 1 17; obtain ⟨_, rfl, e30⟩ := hd 14 30; exact Reg.gw hI
    ·obtain ⟨_, rfl, e31⟩ := hd 15 31; have hal := below_alloc wi (.cells #[.int .i64 x, .int .i64 1, .int .i64 ep, .int .i64 kn, .int .i64 p.seq, .string p.pay] 89)
     exact Reg.Gives.value (v := .slice (some ⟨wi.heap.size, 0, none⟩) 1 1) (w' := wi.alloc (.cells #[.int .i64 x, .int .i64 1, .int .i64 ep, .int .i64 kn, .int .i64 p.seq, .string p.pay] 89)) (by go_simp) ⟨⟨_, rfl, cells_new wi _ _ _ rfl⟩, hI.trans (hal.mono hI.size), fun j u _ _ h => sesData_later hal h⟩
    ·obtain ⟨_, rfl, e16⟩ := hd 0 16; obtain ⟨u32, g32, e32⟩ := hd 16 32; obtain ⟨kk, hx, hck⟩ := g32
     rw [hx] at e32
     obtain ⟨V2, n2, c2, w2, hrun, hrow, hn2, hon, _⟩ := OwnG.appS el_ot fit_ot (HOW.out.later hI) (m := [outH x ep kn p]) (cells_sl (by simpa using hck) (fun v hv => (fit_ot [_]).len v hv)) (fun e => by cases e) (Nat.le_trans HBE.out.size hI.size) (by have := HLK.out; simp only [List.length_map, List.length_take, List.length_singleton]; omega)
     exact Reg.Gives.value (v := .slice V2 n2 c2) (w' := w2) (Reg.exec_append rfl e16 e32 hrun) ⟨hrow, (HBE.out.trans (hI.mono HBE.out.size)).trans (hon.below (Nat.le_trans HBE.out.size hI.size) fun k e => ((HOW.out.lt k (by rw [← e])).1)), fun j u _ hal h => sesData_keep (fun e => by subst e; rw [show Reg.alive _ _ 17 16 = false by kernel_rfl] at hal; cases hal) (fun e => by subst e; rw [show Reg.alive _ _ 17 17 = false by kernel_rfl] at hal; cases hal) (fun e => by subst e; rw [show Reg.alive _ _ 17 18 = false by kernel_rfl] at hal; cases hal) h⟩
    ·obtain ⟨u33, g33, e33⟩ := hd 17 33
     exact Reg.Gives.value (v := u33) (w' := wi) (by go_simp) (Reg.OwedH.same hI g33)
   ·intro V wf hV hI
    have hV18 := hV 18 (by decide) rfl
    simp only [Reg.putsO, List.foldl_cons, List.foldl_nil, Act.put, List.setIfInBounds_toArray, List.set_cons_succ, List.set_cons_zero]
    replace hI : (fun a => Below w.heap.size w a) wf := hI
    clear hV
    have hown : OwnG 89 6 Ot.vals w.heap.size wf (V 18) ((l.take k).map (outH x ep kn) ++ [outH x ep kn p]) := hV18
    obtain ⟨V2, vc2, hv2⟩ := row_slice (by unfold OwnG at hown; exact hown)
    have hrow : OwnG 89 6 Ot.vals w.heap.size wf (.slice V2 ((l.take k).map (outH x ep kn) ++ [outH x ep kn p]).length vc2) ((l.take (k + 1)).map (outH x ep kn)) := by
     rw [HT.out, ← hv2]
     exact hown
    obtain ⟨n2, hn2⟩ : ∃ n2, ((l.take k).map (outH x ep kn) ++ [outH x ep kn p]).length = n2 := ⟨_, rfl⟩
    rw [hn2] at hrow hv2
    rw [hv2]
    have HROW := Lib.hid hrow
    have HBF : Hid (Below w.heap.size w wf) := Lib.hid hI
    clear hV18 hown hrow hn2 hv2 hI
    go_wp2_with fail
    go_roundw
    case rel => exact ⟨k + 1, V2, n2, vc2, by omega, by go_num, rfl, HROW, HBF⟩
    case measure => simp [intOf]; omega
  ·obtain rfl : k = n := by omega
   have HF : Hid (OwnG 89 6 Ot.vals w.heap.size wr (.slice V0 vn vc) (l.map (outH x ep kn))) := Lib.hid (by
    have h1 := HR.out
    rw [List.take_of_length_le (by rw [HN.out]; exact Nat.le_refl _)] at h1
    exact h1)
   go_wp2_with fail
   go_returns
   exact ⟨_, _, _, rfl, HF.out, HBR.out⟩
end
end Go.Proofs.Ytccdpgbmkiapdaa.Ses
