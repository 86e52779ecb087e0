/-
  Layer 14: what came is taken, whole.
  Conditions: none.
-/
import Derived.Test.YtccdpgbmkiapdaaL23
namespace Go.Proofs.Ytccdpgbmkiapdaa.Ses
set_option maxRecDepth 100000
open Go.RowKit Go.Deep Go.Proofs.Ytccdpgbmkiapdaa.Mem Go.Proofs.Ytccdpgbmkiapdaa.Win
theorem rightE_epoch {e : Ev} (h : rightE e = true) : 1 ≤ e.epoch ∧ e.epoch ≤ 1099511627776 := by
 have h1 := of_decide_eq_true h
 exact ⟨h1.1, h1.2.1⟩
theorem beginH_ok {N : Int} {h : Hd} (k : Hok N h) : Hok N (beginH h) := ⟨k.s0, k.s1, by show (1 : Int) ≤ 4; decide, by show (4 : Int) ≤ 16; decide, by show (1 : Int) ≤ 4; decide, by show (4 : Int) ≤ 16; decide, k.p1⟩
theorem meetP_ok {N : Int} {p : Pm} (h : Pok N p) {e : Int} (h1 : 1 ≤ e) (h2 : e ≤ 1099511627776) : Pok N (meetP p e).2 := by
 unfold meetP
 split
 ·exact ⟨Wok.nil, by show 0 ≤ e; omega, h2, h.l0, h.l1, h.len, h.held⟩
 ·refine ⟨Wok.nil, by show 0 ≤ e; omega, h2, h.l0, h.l1, ?_, fun x hx => ?_⟩
  ·show (p.held.map beginH).length ≤ 32
   rw [List.length_map]
   exact h.len
  ·obtain ⟨y, hy, rfl⟩ := List.mem_map.1 hx
   exact beginH_ok (h.held y hy)
theorem meetP_held_len (p : Pm) (e : Int) : (meetP p e).2.held.length = p.held.length := by
 unfold meetP
 split
 ·rfl
 ·show (p.held.map beginH).length = _
  rw [List.length_map]
/-- What came is taken. -/
def takeM (S : Sm) (x : Int) (e : Ev) : ByteArray × List Ot × Int × Sm :=
 if other S x = false then (⟨#[]⟩, [], 1, S) else
 if rightE e = false then (⟨#[]⟩, [], 1, S) else
 if e.epoch < (peerOf S x).known then (⟨#[]⟩, [], 11, S) else
 if (peerOf S x).known < e.epoch then
  tailM (putP S x (meetP (peerOf S x) e.epoch).2) x e (if (meetP (peerOf S x) e.epoch).1 then dataL x S.epoch (meetP (peerOf S x) e.epoch).2.known (meetP (peerOf S x) e.epoch).2.held else [])
 else tailM S x e []
def sesTake7 (pb o eb : Nat) (ep kn : Int) (b : Bool) : Nat → Value → World → Prop
 | 0, v, _ => v = .pointer (some ⟨eb, 1, none⟩)
 | 1, v, _ => v = .int .i64 ep
 | 2, v, _ => v = .pointer (some ⟨pb, o, none⟩)
 | 3, v, _ => v = .pointer (some ⟨pb, o, none⟩)
 | 4, v, _ => v = .pointer (some ⟨pb, o + 2, none⟩)
 | 5, v, _ => v = .int .i64 kn
 | 6, v, _ => v = .bool true
 | 7, v, _ => v = .bool true
 | 8, v, _ => v = .pointer (some ⟨pb, o, none⟩)
 | 9, v, _ => v = .pointer (some ⟨eb, 1, none⟩)
 | 10, v, _ => v = .int .i64 ep
 | 11, v, _ => v = .bool b
 | 12, v, _ => v = .bool b
 | _, _, _ => True
theorem sesTake7_keep {pb o eb : Nat} {ep kn : Int} {b : Bool} {j : Nat} {v : Value} {w w' : World}  (h : sesTake7 pb o eb ep kn b j v w) : sesTake7 pb o eb ep kn b j v w' := by
 match j, h with
 | 0, h | 1, h | 2, h | 3, h | 4, h | 5, h | 6, h | 7, h | 8, h | 9, h | 10, h | 11, h | 12, h => exact h
 | _ + 13, _ => exact trivial
set_option maxHeartbeats 2000000 in
theorem takeMid {B sb pb N eb : Nat} {F : Nat → Prop} {w wr : World} {S : Sm} {As : Nat → Option Addr} {cs : Nat → Nat} {e : Ev} (hx : SAtX B F wr sb S pb As cs) (hS : Sok N S) (i : Nat) (hi : i < S.peers.length) (hnode : (i : Int) + 1 ≠ S.node) (hB : B ≤ w.heap.size)
  (hst : SStep B F w sb S F wr) (heb : Cells wr eb 23 e.vals) (hef : ¬ F eb) (_hwe : w.heap.size ≤ eb) (hr : rightE e = true) (hge : ¬ e.epoch < (S.peers[i]).known)
  {cc : Code} (hc : cc = sub [1, 1, 1, 1, 1] ((Try.f21.body).getD .skip)) {s2 s3 s4 s6 s7 s8 s11 s12 s13 s14 s15 s16 s17 s18 s19 s20 s21 s22 s23 s24 s25 s26 s27 s28 s29 s30 s31 s32 s33 s34 s35 s36 s37 s38 s39 s40 s41 s42 s43 s44 s45 s46 s47 s48 s49 s50 s51 s52 s53 s54 s55 s56 s57 s58 s59 s60 s61 s62 s63 s64 s65 s66 s67 s68 s69 s70 s71 s72 s73 s74 s75 s76 s77 s78 s79 s80 s81 s82 s83 s84 s85 s86 s87 s88 s89 s90 s91 s92 s93 s94 s95 s96 s97 s98 s99 : Value} :
  cc.wp Try.prog (bodyPost Try.prog Try.f21 (fun r w' => TakeEnds B sb F w (takeM S ((i : Int) + 1) e) r w')) { tmps := List.toArray ((.pointer (some ⟨sb, 0, none⟩))::(.int .i64 ((i : Int) + 1))::s2::s3::s4::(.pointer (some ⟨eb, 0, none⟩))::s6::s7::s8::(.pointer (some ⟨pb, i * 5, none⟩))::(.slice none 0 0)::s11::s12::s13::s14::s15::s16::s17::s18::s19::s20::s21::s22::s23::s24::s25::s26::s27::s28::s29::s30::s31::s32::s33::s34::s35::s36::s37::s38::s39::s40::s41::s42::s43::s44::s45::s46::s47::s48::s49::s50::s51::s52::s53::s54::s55::s56::s57::s58::s59::s60::s61::s62::s63::s64::s65::s66::s67::s68::s69::s70::s71::s72::s73::s74::s75::s76::s77::s78::s79::s80::s81::s82::s83::s84::s85::s86::s87::s88::s89::s90::s91::s92::s93::s94::s95::s96::s97::s98::s99::[]), defers := [] } wr := by
 conv at hc => rhs; whnf
 subst hc
 have hoth : other S ((i : Int) + 1) = true := decide_eq_true ⟨hnode, by omega, by omega⟩
 unfold takeM
 rw [if_neg (by rw [hoth]; decide), if_neg (by rw [hr]; decide), peerOf_at hi, if_neg hge, putP_at]
 obtain ⟨p1, hp1⟩ : ∃ p, S.peers[i]'hi = p := ⟨_, rfl⟩
 have hpi := hx.peer i hi
 have hok := hS.peers _ (List.getElem_mem hi)
 rw [hp1] at hpi hok hge ⊢
 have hn16 := hS.n2
 have y1 := heb.cell (j := 1) rfl
 have c2 : wr.cell? ⟨pb, i * 5 + 2, none⟩ = _ := hpi.cel.cell (j := 0) rfl
 by_cases hgt : p1.known < e.epoch
 ·rw [if_pos hgt]
  have hB2 : B ≤ wr.heap.size := Nat.le_trans hB hst.only.size
  have HP1 := Lib.hid hpi
  have HOK1 := Lib.hid hok
  have HEB := Lib.hid heb
  have HGT := Lib.hid hgt
  have hep := rightE_epoch hr
  have HNX : Hid (∀ (wf : World), PStep B pb (i * 5) (As i) wr (meetP p1 e.epoch).2 (As i) (cs i) wf → ∃ F2 As2 cs2, SAtX B F2 wf sb { S with peers := S.peers.set i (meetP p1 e.epoch).2 } pb As2 cs2 ∧ SStep B F w sb { S with peers := S.peers.set i (meetP p1 e.epoch).2 } F2 wf ∧ (∀ k, F2 k → F k) ∧ Cells wf eb 23 e.vals) := Lib.hid fun wf hps => by
   obtain ⟨h1, h2⟩ := hx.step hi hps hB2
   have h3 := hst.trans (hx.turn hi hps hB2)
   refine ⟨_, _, _, h1, h3, fun k e2 => ?_, cells_only heb h2 hef⟩
   rcases e2 with e2 | e2
   ·exact e2
   ·have h4 := ((hx.peer i hi).row.lt k (by rw [own_blk]; exact e2.2.symm)).2
    omega
  have hlen2 : ({ S with peers := S.peers.set i (meetP p1 e.epoch).2 } : Sm).peers.length = S.peers.length := by show (S.peers.set i _).length = _; rw [List.length_set]
  have hget2 : ({ S with peers := S.peers.set i (meetP p1 e.epoch).2 } : Sm).peers[i]'(by rw [hlen2]; exact hi) = (meetP p1 e.epoch).2 := by
   show (S.peers.set i (meetP p1 e.epoch).2)[i]'_ = _
   rw [List.getElem_set_self]
  have hok2 := meetP_ok hok hep.1 hep.2
  apply wp_seq_k
  intro K hK
  have HKT := Lib.hid hK
  clear hK
  have HH := Lib.hid hef
  have HOK2 := Lib.hid hok2
  have HLT := Lib.hid hx.lt
  clear hx hS hst heb hpi hok hp1 hgt hge hep hok2 hoth
  go_wp2_with fail
  refine Reg.region_heavy (by kernel_rfl) 11 [12] (sesTake7 pb (i * 5) eb e.epoch p1.known (meetP p1 e.epoch).1) (fun a => Below wr.heap.size wr a) (fun a => PStep B pb (i * 5) (As i) wr (meetP p1 e.epoch).2 (As i) (cs i) a) (fun V => [(some 28, V 0), (some 29, V 1), (some 30, V 2), (some 31, V 3), (some 32, V 4), (some 33, V 5), (some 34, V 6), (some 35, V 7), (some 36, V 8), (some 37, V 9), (some 38, V 10), (some 39, V 11), (some 40, V 12)]) (by kernel_rfl) (by kernel_rfl) (by kernel_rfl) (fun V => rfl) ?_ ?_ ?_
  ·exact (Below.refl _ _).drew
  ·intro i o ho
   have hi : i < 13 := (Array.getElem?_eq_some_iff.1 ho).1
   rcases i with _ | _ | _ | _ | _ | _ | _ | _ | _ | _ | _ | _ | _ | i
   rotate_right
   ·omega
   all_goals obtain rfl := Option.some.inj ho
   all_goals intro ρ wi hE hI hs hd
   all_goals try dsimp only at hI
   ·have e5 : ρ (.tmp 5) = .pointer (some ⟨eb, 0, none⟩) := hs 5; exact Reg.gw hI
   ·obtain ⟨_, rfl, e28⟩ := hd 0 28; have x0 := (HEB.out.later hI).cell (j := 1) rfl; exact Reg.gw hI
   ·have e9 : ρ (.tmp 9) = .pointer (some ⟨pb, i * 5, none⟩) := hs 9; exact Reg.gw hI
   ·obtain ⟨_, rfl, e30⟩ := hd 2 30; exact Reg.gw hI
   ·obtain ⟨_, rfl, e31⟩ := hd 3 31; exact Reg.gw hI
   ·obtain ⟨_, rfl, e32⟩ := hd 4 32; have x0 : wi.cell? ⟨pb, i * 5 + 2, none⟩ = _ := (HP1.out.later hI).cel.cell (j := 0) rfl; exact Reg.gw hI
   ·obtain ⟨_, rfl, e29⟩ := hd 1 29; obtain ⟨_, rfl, e33⟩ := hd 5 33; have hd : decide (e.epoch > p1.known) = true := decide_eq_true HGT.out; exact Reg.gw hI
   ·obtain ⟨_, rfl, e34⟩ := hd 6 34; exact Reg.gw hI
   ·have e9 : ρ (.tmp 9) = .pointer (some ⟨pb, i * 5, none⟩) := hs 9
    refine Reg.yes ?_
    exact Reg.gw hI
   ·have e5 : ρ (.tmp 5) = .pointer (some ⟨eb, 0, none⟩) := hs 5
    refine Reg.yes ?_
    exact Reg.gw hI
   ·obtain ⟨_, rfl, e37⟩ := hd 9 37
    refine Reg.yes ?_
    have x0 := (HEB.out.later hI).cell (j := 1) rfl; exact Reg.gw hI
   ·obtain ⟨_, rfl, e36⟩ := hd 8 36; obtain ⟨_, rfl, e38⟩ := hd 10 38; have hf := hE.func
    refine Reg.yes ?_
    refine Reg.Gives.call (f := 52) (args := #[.pointer (some ⟨pb, i * 5, none⟩), .int .i64 e.epoch]) (w' := wi) (by go_simp) ?_
    refine (meet_any (HP1.out.later hI) HOK1.out e.epoch).mono ?_
    rintro e' w'' ⟨rfl, hps⟩
    exact ⟨_, rfl, ⟨rfl, hps.before hI, fun j u _ _ h => sesTake7_keep h⟩⟩
   ·obtain ⟨_, rfl, e35⟩ := hd 7 35; obtain ⟨_, rfl, e39⟩ := hd 11 39; have hc := hE.const; exact Reg.gw hI
  ·intro V wf hV hI
   have hV12 : V 12 = .bool (meetP p1 e.epoch).1 := hV 12 (by decide) rfl
   simp only [Reg.putsO, List.foldl_cons, List.foldl_nil, Act.put, List.setIfInBounds_toArray, List.set_cons_succ, List.set_cons_zero, hV12]
   replace hI : (fun a => PStep B pb (i * 5) (As i) wr (meetP p1 e.epoch).2 (As i) (cs i) a) wf := hI
   clear hV hV12
   obtain ⟨F2, As2, cs2, hx2, hst2, hF2, heb2⟩ := HNX.out wf hI
   cases hm : (meetP p1 e.epoch).1 with
   | false =>
    rw [hm] at HKT
    go_wp2_with fail
    exact HKT.out _ _ (takeTail hx2 (by rw [hlen2]; exact hn16) i (by rw [hlen2]; exact hi) hnode (by rw [hget2]; exact HOK2.out) hB hst2 (OwnG.nil _ _ _ _ _) (fun k e => by cases e) (by simp) heb2 (fun e2 => HH.out (hF2 _ e2)) hr (by kernel_rfl))
   | true =>
    rw [hm] at HKT
    have hd := data_any hx2 (by rw [hlen2]; exact hn16) i (by rw [hlen2]; exact hi) hnode (As i) (meetP p1 e.epoch).2.held (cs i) (OwnG.sl fit_hd hI.at'.row).2 (by rw [meetP_held_len]; have := HOK1.out.len; omega) (fun y hy => by
     have := (HOK2.out.held y hy).p1
     omega)
    rw [hget2] at hd
    have c4 : wf.cell? ⟨pb, i * 5 + 4, none⟩ = _ := hI.at'.cel.cell (j := 2) rfl
    have HD := Lib.hid hd
    have HX2 := Lib.hid hx2
    have HST2 := Lib.hid hst2
    have HF2 := Lib.hid hF2
    have HEB2 := Lib.hid heb2
    have HSZ : Hid (∀ k, F2 k → k < wf.heap.size) := Lib.hid hx2.lt
    have HL2 : Hid ((meetP p1 e.epoch).2.held.length ≤ 32) := Lib.hid (by rw [meetP_held_len]; exact HOK1.out.len)
    have HG2 := Lib.hid hget2
    obtain ⟨n2, hn2⟩ : ∃ n, (meetP p1 e.epoch).2.held.length = n := ⟨_, rfl⟩
    rw [hn2] at HD c4
    clear hd hx2 hst2 hF2 heb2 hI hm hget2 HNX HP1 HEB y1 c2 hn2
    go_wp2_with fail
    refine HD.out.mono ?_
    rintro r w3 ⟨V, vn, vc, rfl, hown, hb3⟩
    have HO := Lib.hid hown
    have HB3 := Lib.hid hb3
    clear hown hb3
    go_wp2_with fail
    refine HKT.out _ _ (takeTail (HX2.out.later HB3.out) (by rw [hlen2]; exact hn16) i (by rw [hlen2]; exact hi) hnode (by rw [HG2.out]; exact HOK2.out) hB (HST2.out.after HB3.out) (own_up HST2.out.only.size HO.out) (fun k e2 => ?_) (by simp only [dataL, List.length_map]; have := HL2.out; omega) (HEB2.out.later HB3.out) (fun e2 => HH.out (HF2.out _ e2)) hr (by kernel_rfl))
    have h1 := (HO.out.lt k (by rw [own_blk]; exact e2)).1
    refine ⟨fun e3 => ?_, fun e3 => ?_⟩
    ·have := HSZ.out k e3
     omega
    ·have := HEB2.out.lt
     omega
 ·rw [if_neg hgt]
  have e1 : decide (e.epoch > p1.known) = false := decide_eq_false hgt
  apply wp_seq_k
  intro K hK
  have HKT := Lib.hid hK
  clear hK
  have HX := Lib.hid hx
  have HST := Lib.hid hst
  have HEB := Lib.hid heb
  have HH := Lib.hid hef
  have HR := Lib.hid hr
  have HP := Lib.hid hp1
  have HOK := Lib.hid hok
  clear hx hS hst heb hpi hok hp1 hgt hge hr hef hoth
  go_wp2_with fail
  go_quiet (fail)
  go_wp2_with fail
  exact HKT.out _ _ (takeTail (HX.out.later (below_drewN (Below.refl _ _) _)) hn16 i hi hnode (by rw [HP.out]; exact HOK.out) hB (HST.out.after (below_drewN (Below.refl _ _) _)) (OwnG.nil _ _ _ _ _) (fun k e => by cases e) (by simp) (HEB.out.later (below_drewN (Below.refl _ _) _)) HH.out HR.out (by kernel_rfl))
set_option maxHeartbeats 2000000 in
theorem Take_any {B sb N : Nat} {F : Nat → Prop} {w : World} {S : Sm} (h : SAt B F w sb S) (hS : Sok N S) (hB : B ≤ w.heap.size) (x : Int) (e : Ev) (hpay : e.pay.size ≤ 140737488355328) :
  Calls Try.prog 21 #[.pointer (some ⟨sb, 0, none⟩), .int .i64 x, e.val] w fun r w' => TakeEnds B sb F w (takeM S x e) r w' := by
 obtain ⟨pb, As, cs, hx⟩ := h
 obtain ⟨wa, hwa⟩ : ∃ W, W = w.alloc (.cells #[.int .i64 e.kind, .int .i64 e.epoch, .int .i64 e.peer, .int .i64 e.seq, .string e.pay] 23) := ⟨_, rfl⟩
 have hba : Below w.heap.size w wa := by rw [hwa]; exact below_alloc _ _
 have hca : Cells wa w.heap.size 23 e.vals := by rw [hwa]; exact cells_new _ _ _ _ rfl
 have hxa := hx.later hba
 have HB := Lib.hid hba
 have HS0 : Hid (SStep B F w sb S F wa) := Lib.hid (SStep.same ⟨pb, As, cs, hx⟩ hba)
 unfold Ev.val
 have hn16 := hS.n2
 by_cases ho : other S x = false
 ·have e0 : takeM S x e = (⟨#[]⟩, [], 1, S) := if_pos ho
  rw [e0]
  have HP := Lib.hid (peer_none hxa x ho)
  have HFIN : Hid (TakeEnds B sb F w (⟨#[]⟩, [], 1, S) (.returned (.tuple #[.string ⟨#[]⟩, .slice none 0 0, .int .i64 1])) wa) := Lib.hid ⟨none, 0, 0, F, rfl, OwnG.nil _ _ _ _ _, HS0.out, fun k e => by cases e⟩
  clear hx hxa hba hca e0 ho hS
  go_enter Try.func21, Try.ntmps21
  go_upto_region 1 with (fail)
  rw [← hwa]
  clear hwa
  go_wp2_with fail
  refine HP.out.mono ?_
  rintro r w1 ⟨rfl, rfl⟩
  go_wp2_with fail
  go_returns
  exact HFIN.out
 ·obtain ⟨i, hi, rfl, hnode⟩ := other_at (by simpa using ho)
  have HP := Lib.hid (peer_some hxa hn16 i hi hnode)
  have HRT := Lib.hid (right_any e hpay wa)
  have y0 := hca.cell (j := 0) rfl
  have y1 := hca.cell (j := 1) rfl
  have y2 := hca.cell (j := 2) rfl
  have y3 := hca.cell (j := 3) rfl
  have y4 := hca.cell (j := 4) rfl
  unfold Ev.val at HRT
  by_cases hr : rightE e = false
  ·have e0 : takeM S ((i : Int) + 1) e = (⟨#[]⟩, [], 1, S) := by unfold takeM; rw [if_neg ho, if_pos hr]
   rw [e0]
   rw [hr] at HRT
   have HFIN : Hid (∀ w2, Below wa.heap.size wa w2 → TakeEnds B sb F w (⟨#[]⟩, [], 1, S) (.returned (.tuple #[.string ⟨#[]⟩, .slice none 0 0, .int .i64 1])) w2) := Lib.hid fun w2 hb => ⟨none, 0, 0, F, rfl, OwnG.nil _ _ _ _ _, HS0.out.after hb, fun k e => by cases e⟩
   clear hx hxa hba hca e0 ho hS hr
   go_enter Try.func21, Try.ntmps21
   go_upto_region 1 with (fail)
   rw [← hwa]
   clear hwa
   go_wp2_with fail
   refine HP.out.mono ?_
   rintro r w1 ⟨rfl, rfl⟩
   go_wp2_with fail
   refine HRT.out.mono ?_
   rintro r w2 ⟨rfl, hb2⟩
   have HF2 := Lib.hid (HFIN.out w2 hb2)
   clear hb2
   go_wp2_with fail
   go_returns
   exact HF2.out
  ·have hr2 : rightE e = true := by simpa using hr
   rw [hr2] at HRT
   obtain ⟨p1, hp1⟩ : ∃ p, S.peers[i]'hi = p := ⟨_, rfl⟩
   have HX := Lib.hid hxa
   have HE := Lib.hid hca
   have HSO := Lib.hid hS
   have HPI := Lib.hid hp1
   have HBW := Lib.hid hB
   have HR2 := Lib.hid hr2
   have HND := Lib.hid hnode
   have HNF : Hid (¬ F w.heap.size) := Lib.hid fun e2 => by have := hx.lt _ e2; omega
   have hB2 : ∀ {x2 : Bool}, x2 = decide (e.epoch < p1.known) → True := fun _ => trivial
   by_cases hlt : e.epoch < p1.known
   ·have e0 : takeM S ((i : Int) + 1) e = (⟨#[]⟩, [], 11, S) := by
     unfold takeM
     rw [if_neg ho, if_neg hr, peerOf_at hi, hp1, if_pos hlt]
    rw [e0]
    have e1 : decide (e.epoch < p1.known) = true := decide_eq_true hlt
    have HFIN : Hid (∀ w2, Below wa.heap.size wa w2 → TakeEnds B sb F w (⟨#[]⟩, [], 11, S) (.returned (.tuple #[.string ⟨#[]⟩, .slice none 0 0, .int .i64 11])) w2) := Lib.hid fun w2 hb => ⟨none, 0, 0, F, rfl, OwnG.nil _ _ _ _ _, HS0.out.after hb, fun k e => by cases e⟩
    clear hx hxa hba hca e0 ho hS hr hr2 hlt hp1 hnode hB2
    go_enter Try.func21, Try.ntmps21
    go_upto_region 1 with (fail)
    rw [← hwa]
    clear hwa
    go_wp2_with fail
    refine HP.out.mono ?_
    rintro r w1 ⟨rfl, rfl⟩
    go_wp2_with fail
    refine HRT.out.mono ?_
    rintro r w2 ⟨rfl, hb2⟩
    have z1 := (HE.out.later hb2).cell (j := 1) rfl
    have c2 : w2.cell? ⟨pb, i * 5 + 2, none⟩ = _ := ((HX.out.later hb2).peer i hi).cel.cell (j := 0) rfl
    rw [HPI.out] at c2
    have HF2 := Lib.hid (HFIN.out _ (hb2.trans (below_drewN (Below.refl _ _) 0)))
    have HFD := Lib.hid (fun n2 => HFIN.out _ (hb2.trans (below_drewN (Below.refl _ _) n2)))
    clear hb2 HF2
    go_wp2_with fail
    go_quiet (fail)
    go_wp2_with fail
    go_returns
    exact HFD.out _
   ·have e1 : decide (e.epoch < p1.known) = false := decide_eq_false hlt
    have HGE := Lib.hid hlt
    clear hx hxa hba hca ho hS hr hr2 hlt hp1 hnode hB2
    go_enter Try.func21, Try.ntmps21
    apply wp_seq_k
    intro K hK
    have HKT := Lib.hid hK
    clear hK
    go_wp2_with fail
    refine HKT.out _ _ ?_
    clear HKT
    rw [← hwa]
    clear hwa
    apply wp_seq_k
    intro K hK
    have HKT := Lib.hid hK
    clear hK
    go_wp2_with fail
    refine HP.out.mono ?_
    rintro r w1 ⟨rfl, rfl⟩
    go_wp2_with fail
    refine HKT.out _ _ ?_
    clear HKT
    apply wp_seq_k
    intro K hK
    have HKT := Lib.hid hK
    clear hK
    go_wp2_with fail
    refine HRT.out.mono ?_
    rintro r w2 ⟨rfl, hb2⟩
    have z1 := (HE.out.later hb2).cell (j := 1) rfl
    have c2 : w2.cell? ⟨pb, i * 5 + 2, none⟩ = _ := ((HX.out.later hb2).peer i hi).cel.cell (j := 0) rfl
    rw [HPI.out] at c2
    have HB2 := Lib.hid hb2
    clear hb2 y0 y1 y2 y3 y4
    go_wp2_with fail
    refine HKT.out _ _ ?_
    clear HKT
    apply wp_seq_k
    intro K hK
    have HKT := Lib.hid hK
    clear hK
    go_wp2_with fail
    go_quiet (fail)
    go_wp2_with fail
    refine HKT.out _ _ ?_
    clear HKT z1 c2
    apply wp_seq_k
    intro K hK
    have HKT := Lib.hid hK
    clear hK
    go_wp2_with fail
    have hb3 := HB2.out.trans (below_drewN (Below.refl _ _) nq)
    exact HKT.out _ _ (takeMid (HX.out.later hb3) HSO.out i hi HND.out HBW.out (HS0.out.after hb3) (HE.out.later hb3) HNF.out (Nat.le_refl _) HR2.out (by rw [HPI.out]; have := HGE.out; omega) (by kernel_rfl))
end Go.Proofs.Ytccdpgbmkiapdaa.Ses
