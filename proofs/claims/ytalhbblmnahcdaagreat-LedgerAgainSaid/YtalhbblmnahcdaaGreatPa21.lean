/-
  Layer 8: where a name is put among others: the library's search by halves; a list with one thing more.
  Conditions: none.
-/
import Derived.Test.YtalhbblmnahcdaaGreatPa18
import Derived.Test.YtalhbblmnahcdaaGreatPa20
namespace Go.Proofs.YtalhbblmnahcdaaGreat.Led
set_option maxRecDepth 100000
open Go.RowKit Go.Deep Go.Proofs.YtalhbblmnahcdaaGreat.Mem Go.Proofs.YtalhbblmnahcdaaGreat.Item Go.Proofs.YtalhbblmnahcdaaGreat.Rec
/-- Search by halves, where it stands. -/
def bsGo : Nat → List Int → Nat → Nat → Nat
 | 0, _, i, _ => i
 | m + 1, os, i, j => if i < j then (if (os[(i + j) / 2]?).getD 0 < 0 then bsGo m os ((i + j) / 2 + 1) j else bsGo m os i ((i + j) / 2)) else i
def bsAt (os : List Int) : Nat := bsGo os.length os 0 os.length
theorem bsGo_le (os : List Int) : ∀ (m i j : Nat), i ≤ j → bsGo m os i j ≤ j
 | 0, _, _, h => h
 | m + 1, i, j, h => by
  unfold bsGo
  split
  ·split
   ·exact bsGo_le os m _ _ (by omega)
   ·exact Nat.le_trans (bsGo_le os m _ _ (by omega)) (by omega)
  ·exact h
theorem bsAt_le (os : List Int) : bsAt os ≤ os.length := bsGo_le os _ _ _ (Nat.zero_le _)
theorem bsGo_low {m : Nat} {os : List Int} {i j : Nat} (h : i < j) (ho : (os[(i + j) / 2]?).getD 0 < 0) : bsGo (m + 1) os i j = bsGo m os ((i + j) / 2 + 1) j := by
 conv => lhs; unfold bsGo
 rw [if_pos h, if_pos ho]
theorem bsGo_high {m : Nat} {os : List Int} {i j : Nat} (h : i < j) (ho : ¬ (os[(i + j) / 2]?).getD 0 < 0) : bsGo (m + 1) os i j = bsGo m os i ((i + j) / 2) := by
 conv => lhs; unfold bsGo
 rw [if_pos h, if_neg ho]
theorem bsGo_end (m : Nat) (os : List Int) (i : Nat) : bsGo m os i i = i := by
 cases m with
 | zero => rfl
 | succ m => unfold bsGo; rw [if_neg (Nat.lt_irrefl i)]
def ledIns_prep (p : Pr) (y : Lay) (u : Tid) : Nat → Value → World → Prop
 | 0, v, _ => v = .func (.func 48) #[] #[]
 | 1, v, _ => v = .agg #[.int .i64 p.tid.node, .int .i64 p.tid.epoch, .int .i64 p.tid.seq, .slice y.A p.items.length y.c, .slice y.B p.nodes.length y.d]
 | 2, v, _ => v = .agg #[.int .i64 p.tid.node, .int .i64 p.tid.epoch, .int .i64 p.tid.seq]
 | 3, v, _ => v = .agg #[.int .i64 u.node, .int .i64 u.epoch, .int .i64 u.seq]
 | 4, v, _ => v = .int .i64 (ord p.tid u)
 | 5, v, _ => v = .int .i64 (ord p.tid u)
 | _, _, _ => True
theorem ledIns_prep_later {p : Pr} {y : Lay} {u : Tid} {j : Nat} {v : Value} {w w' : World} (_hb : Below w.heap.size w w') (h : ledIns_prep p y u j v w) : ledIns_prep p y u j v w' := by
 match j, h with
 | 0, h | 1, h | 2, h | 3, h | 4, h | 5, h => exact h
 | _ + 6, _ => exact trivial
set_option maxHeartbeats 1000000 in
theorem insEq_prep (p : Pr) (y : Lay) (pf : Nat) (u : Tid) (w : World) (hf : w.cell? ⟨pf, 0, none⟩ = some (.func (.func 48) #[] #[])) :
  Calls Tryz.prog 115 #[.agg (p.vals y).toArray, u.val, .pointer (some ⟨pf, 0, none⟩)] w fun e w' => e = .returned (.int .i64 (ord p.tid u)) ∧ Below w.heap.size w w' := by
 have HN := Lib.hid (fun wi => name_prep p y wi)
 obtain ⟨wb, hwb⟩ : ∃ v, v = (w.alloc (.cells #[.int .i64 p.tid.node, .int .i64 p.tid.epoch, .int .i64 p.tid.seq, .slice y.A p.items.length y.c, .slice y.B p.nodes.length y.d] 86)).alloc (.cells #[.int .i64 u.node, .int .i64 u.epoch, .int .i64 u.seq] 47) := ⟨_, rfl⟩
 have hb1 := below_alloc w (.cells #[.int .i64 p.tid.node, .int .i64 p.tid.epoch, .int .i64 p.tid.seq, .slice y.A p.items.length y.c, .slice y.B p.nodes.length y.d] 86)
 have hb : Below w.heap.size w wb := by rw [hwb]; exact hb1.alloc hb1.size _
 have hu : Cells wb (w.heap.size + 1) 47 [.int .i64 u.node, .int .i64 u.epoch, .int .i64 u.seq] := by
  rw [hwb]
  have h := cells_new (w.alloc (.cells #[.int .i64 p.tid.node, .int .i64 p.tid.epoch, .int .i64 p.tid.seq, .slice y.A p.items.length y.c, .slice y.B p.nodes.length y.d] 86)) 47 [.int .i64 u.node, .int .i64 u.epoch, .int .i64 u.seq] _ rfl
  rw [World.size_alloc] at h
  exact h
 have HF := Lib.hid (fun wi (h : Below wb.heap.size wb wi) => (h.cell (block_of_cell ((hb.cell (block_of_cell hf)).trans hf))).trans ((hb.cell (block_of_cell hf)).trans hf))
 have HU := Lib.hid (drop3 hu)
 have HX := Lib.hid (fun wi (h : Below wb.heap.size wb wi) => (show Cells wb w.heap.size 86 [.int .i64 p.tid.node, .int .i64 p.tid.epoch, .int .i64 p.tid.seq, .slice y.A p.items.length y.c, .slice y.B p.nodes.length y.d] by rw [hwb]; exact (cells_new _ _ _ _ rfl).later (below_alloc _ _)).later h)
 have HB := Lib.hid hb
 unfold Pr.vals at HN ⊢
 unfold Tid.val at HN ⊢
 clear hf hu hb hb1
 go_enter Tryz.func115, Tryz.ntmps115
 go_wp2_with fail
 rw [← hwb]
 refine Reg.region_heavy (by kernel_rfl) 5 [5] (ledIns_prep p y u) (fun a => Below wb.heap.size wb a) (fun a => Below wb.heap.size wb a) (fun V => [(some 6, V 0), (some 7, V 1), (some 8, V 2), (some 9, V 3), (some 10, V 4), (some 5, V 5)]) (by kernel_rfl) (by kernel_rfl) (by kernel_rfl) (fun V => rfl) ?_ ?_ ?_
 ·exact (Below.refl _ _).drew
 ·intro i o ho
  have hi : i < 6 := (Array.getElem?_eq_some_iff.1 ho).1
  rcases i with _ | _ | _ | _ | _ | _ | i
  rotate_right
  ·omega
  all_goals obtain rfl := Option.some.inj ho
  all_goals intro ρ wi hE hI hs hd
  all_goals try dsimp only at hI
  ·have e2 : ρ (.tmp 2) = .pointer (some ⟨pf, 0, none⟩) := hs 2; have x0 := HF.out wi hI; exact Reg.gw hI
  ·have e3 : ρ (.tmp 3) = .pointer (some ⟨w.heap.size, 0, none⟩) := hs 3; have hcx := HX.out wi hI; have z0 := hcx.cell (j := 0) rfl; have z1 := hcx.cell (j := 1) rfl; have z2 := hcx.cell (j := 2) rfl; have z3 := hcx.cell (j := 3) rfl; have z4 := hcx.cell (j := 4) rfl; exact Reg.gw hI
  ·obtain ⟨_, rfl, e6⟩ := hd 0 6; obtain ⟨_, rfl, e7⟩ := hd 1 7
   refine Reg.Gives.call (f := 48) (args := #[.agg #[.int .i64 p.tid.node, .int .i64 p.tid.epoch, .int .i64 p.tid.seq, .slice y.A p.items.length y.c, .slice y.B p.nodes.length y.d]]) (w' := wi) (by go_simp) ?_
   refine (HN.out wi).mono ?_
   rintro e w'' ⟨rfl, hbb⟩
   exact ⟨_, rfl, ⟨rfl, hI.trans (hbb.mono hI.size), fun j u _ _ h => ledIns_prep_later hbb h⟩⟩
  ·have e4 : ρ (.tmp 4) = .pointer (some ⟨w.heap.size + 1, 0, none⟩) := hs 4; have ha := HU.out wi hI; have y0 := ha.1; have y1 := ha.2.1; have y2 := ha.2.2; exact Reg.gw hI
  ·obtain ⟨_, rfl, e8⟩ := hd 2 8; obtain ⟨_, rfl, e9⟩ := hd 3 9; have hf := hE.func
   refine Reg.Gives.call (f := 116) (args := #[.agg #[.int .i64 p.tid.node, .int .i64 p.tid.epoch, .int .i64 p.tid.seq], .agg #[.int .i64 u.node, .int .i64 u.epoch, .int .i64 u.seq]]) (w' := wi) (by go_simp) ?_
   refine (order_any p.tid u wi).mono ?_
   rintro e w'' ⟨rfl, hbb⟩
   exact ⟨_, rfl, ⟨rfl, hI.trans (hbb.mono hI.size), fun j u _ _ h => ledIns_prep_later hbb h⟩⟩
  ·obtain ⟨_, rfl, e10⟩ := hd 4 10; exact Reg.gw hI
 ·intro V wa hV hI
  have hV5 : V 5 = .int .i64 (ord p.tid u) := hV 5 (by decide) rfl
  simp only [Reg.putsO, List.foldl_cons, List.foldl_nil, Act.put, List.setIfInBounds_toArray, List.set_cons_succ, List.set_cons_zero, hV5]
  replace hI : (fun a => Below wb.heap.size wb a) wa := hI
  clear hV hV5
  go_wp2_with fail
  go_returns
  exact ⟨rfl, HB.out.trans (hI.mono HB.out.size)⟩
def ledBs_prep (b off k : Nat) (n cap pf : Nat) (x : List Value) (u : Tid) (o : Int) : Nat → Value → World → Prop
 | 0, v, _ => v = .func (.func 115) #[] #[.pointer (some ⟨pf, 0, none⟩)]
 | 1, v, _ => v = .slice (some ⟨b, off, none⟩) n cap
 | 2, v, _ => v = .int .i64 (k : Int)
 | 3, v, _ => v = .pointer (some ⟨b, off + k * 5, none⟩)
 | 4, v, _ => v = .agg x.toArray
 | 5, v, _ => v = .agg #[.int .i64 u.node, .int .i64 u.epoch, .int .i64 u.seq]
 | 6, v, _ => v = .int .i64 o
 | 7, v, _ => v = .bool (decide (o < 0))
 | _, _, _ => True
theorem ledBs_prep_later {b off k : Nat} {n cap pf : Nat} {x : List Value} {u : Tid} {o : Int} {j : Nat} {v : Value} {w w' : World} (_hb : Below w.heap.size w w') (h : ledBs_prep b off k n cap pf x u o j v w) : ledBs_prep b off k n cap pf x u o j v w' := by
 match j, h with
 | 0, h | 1, h | 2, h | 3, h | 4, h | 5, h | 6, h | 7, h => exact h
 | _ + 8, _ => exact trivial
def ledBe_prep (b off k : Nat) (n cap pf : Nat) (x : List Value) (u : Tid) (o : Int) : Nat → Value → World → Prop
 | 0, v, _ => v = .int .i64 (k : Int)
 | 1, v, _ => v = .int .i64 (k : Int)
 | 2, v, _ => v = .int .i64 (n : Int)
 | 3, v, _ => v = .bool true
 | 4, v, _ => v = .bool true
 | 5, v, _ => v = .func (.func 115) #[] #[.pointer (some ⟨pf, 0, none⟩)]
 | 6, v, _ => v = .slice (some ⟨b, off, none⟩) n cap
 | 7, v, _ => v = .int .i64 (k : Int)
 | 8, v, _ => v = .pointer (some ⟨b, off + k * 5, none⟩)
 | 9, v, _ => v = .agg x.toArray
 | 10, v, _ => v = .agg #[.int .i64 u.node, .int .i64 u.epoch, .int .i64 u.seq]
 | 11, v, _ => v = .int .i64 o
 | 12, v, _ => v = .bool (o == 0)
 | 13, v, _ => v = .bool (o == 0)
 | 14, v, _ => v = .int .i64 (k : Int)
 | 15, v, _ => v = .bool (o == 0)
 | _, _, _ => True
theorem ledBe_prep_later {b off k : Nat} {n cap pf : Nat} {x : List Value} {u : Tid} {o : Int} {j : Nat} {v : Value} {w w' : World} (_hb : Below w.heap.size w w') (h : ledBe_prep b off k n cap pf x u o j v w) : ledBe_prep b off k n cap pf x u o j v w' := by
 match j, h with
 | 0, h | 1, h | 2, h | 3, h | 4, h | 5, h | 6, h | 7, h | 8, h | 9, h | 10, h | 11, h | 12, h | 13, h | 14, h | 15, h => exact h
 | _ + 16, _ => exact trivial
def ledBo_prep (n k : Nat) : Nat → Value → World → Prop
 | 0, v, _ => v = .int .i64 (k : Int)
 | 1, v, _ => v = .int .i64 (k : Int)
 | 2, v, _ => v = .int .i64 (n : Int)
 | 3, v, _ => v = .bool false
 | 4, v, _ => v = .bool false
 | 5, v, _ => v = undef
 | 6, v, _ => v = undef
 | 7, v, _ => v = undef
 | 8, v, _ => v = undef
 | 9, v, _ => v = undef
 | 10, v, _ => v = undef
 | 11, v, _ => v = undef
 | 12, v, _ => v = undef
 | 13, v, _ => v = .bool false
 | 14, v, _ => v = .int .i64 (k : Int)
 | 15, v, _ => v = .bool false
 | _, _, _ => True
set_option maxHeartbeats 2000000 in
theorem bs_prep (A : Option Addr) (vs : List (List Value)) (os : List Int) (cap : Nat) (u : Tid) (pf : Nat) (w : World) (h : Sl w A 5 vs) (hz : ∀ k (hk : k < vs.length), vs[k].length = 5) (hb : os.length = vs.length) (hl : vs.length ≤ 100000)
  (ht : ∀ k (hk : k < vs.length) (hk' : k < os.length) w', Below w.heap.size w w' → Calls Tryz.prog 115 #[.agg vs[k].toArray, u.val, .pointer (some ⟨pf, 0, none⟩)] w' fun e w'' => e = .returned (.int .i64 os[k]) ∧ Below w'.heap.size w' w'') :
  Calls Tryz.prog 114 #[.slice A vs.length cap, u.val, .func (.func 115) #[] #[.pointer (some ⟨pf, 0, none⟩)]] w fun e w' => (∃ z, e = .returned (.tuple #[.int .i64 (bsAt os : Nat), .bool z])) ∧ Below w.heap.size w w' := by
 obtain ⟨wb, hwb⟩ : ∃ v, v = w.alloc (.cells #[.int .i64 u.node, .int .i64 u.epoch, .int .i64 u.seq] 47) := ⟨_, rfl⟩
 have hb0 : Below w.heap.size w wb := by rw [hwb]; exact below_alloc _ _
 have hu : Cells wb w.heap.size 47 [.int .i64 u.node, .int .i64 u.epoch, .int .i64 u.seq] := by rw [hwb]; exact cells_new _ _ _ _ rfl
 have HH := Lib.hid (h.later hb0)
 have HT : Hid (∀ k (hk : k < vs.length) (hk' : k < os.length) w', Below wb.heap.size wb w' → Calls Tryz.prog 115 #[.agg vs[k].toArray, u.val, .pointer (some ⟨pf, 0, none⟩)] w' fun e w'' => e = .returned (.int .i64 os[k]) ∧ Below w'.heap.size w' w'') := Lib.hid fun k hk hk' w' hw => ht k hk hk' w' (hb0.trans (hw.mono hb0.size))
 have HZ := Lib.hid hz
 have HU := Lib.hid (drop3 hu)
 have HB0 := Lib.hid hb0
 have HG : Hid (w.heap.size < wb.heap.size) := Lib.hid hu.lt
 obtain ⟨F, hF⟩ : ∃ F, bsAt os = F := ⟨_, rfl⟩
 have HF := Lib.hid hF
 rw [hF]
 obtain ⟨n, hn⟩ : ∃ n, vs.length = n := ⟨_, rfl⟩
 have HN := Lib.hid hn
 have HBL := Lib.hid hb
 rw [hn] at hl ⊢
 unfold Tid.val at HT ⊢
 clear h hF hn hb ht hz hb0 hu
 go_enter Tryz.func114, Tryz.ntmps114
 go_wp2_with fail
 rw [← hwb]
 go_loopw [9, 10] (fun i j wr => ∃ k l m : Nat, k ≤ l ∧ l ≤ n ∧ l - k ≤ m ∧ i = .int .i64 (k : Int) ∧ j = .int .i64 (l : Int) ∧ Hid (bsGo m os k l = F) ∧ Hid (Below wb.heap.size wb wr)) (fun i j _ => (intOf j).toNat - (intOf i).toNat)
 case atStart => exact ⟨0, n, n, Nat.zero_le _, Nat.le_refl _, Nat.le_refl _, rfl, rfl, Lib.hid (by have h := HF.out; unfold bsAt at h; rw [HBL.out, HN.out] at h; exact h), Lib.hid (Below.refl _ _)⟩
 case round =>
  obtain ⟨k, l, m, hkl, hln, hm, rfl, rfl, HGO, HB⟩ := hrel
  by_cases hlt : k < l
  ·obtain ⟨h, hh⟩ : ∃ h, (k + l) / 2 = h := ⟨_, rfl⟩
   have hhn : h < n := by omega
   have hkh : k ≤ h := by omega
   have hhl : h < l := by omega
   have hlt' : h < vs.length := by have := HN.out; omega
   have hlb : h < os.length := by have := HBL.out; omega
   obtain ⟨b, off, hA, hr0⟩ := HH.out h hlt'
   subst hA
   have HZK := Lib.hid (HZ.out h hlt')
   have HLD : Hid (∀ wi, Below wr.heap.size wr wi → (loadVar 86 ⟨b, off + h * 5, none⟩).run Tryz.prog wi = .ok (.agg vs[h].toArray) wi) := Lib.hid fun wi hw => run_loadVar_mid wi b (off + h * 5) 86 vs[h] _ (range_later (range_later hr0 HB.out) hw) Tryz.underlying86 rfl (by rw [HZK.out]; kernel_rfl)
   have HC : Hid (∀ wi, Below wr.heap.size wr wi → Calls Tryz.prog 115 #[.agg vs[h].toArray, .agg #[.int .i64 u.node, .int .i64 u.epoch, .int .i64 u.seq], .pointer (some ⟨pf, 0, none⟩)] wi fun e w'' => e = .returned (.int .i64 os[h]) ∧ Below wi.heap.size wi w'') := Lib.hid fun wi hw => HT.out h hlt' hlb wi (HB.out.trans (hw.mono HB.out.size))
   have HLT := Lib.hid hhn
   obtain ⟨o, ho⟩ : ∃ y, os[h] = y := ⟨_, rfl⟩
   have HOS : Hid ((os[(k + l) / 2]?).getD 0 = o) := Lib.hid (by rw [hh, List.getElem?_eq_getElem hlb, ho]; rfl)
   rw [ho] at HC
   obtain ⟨x, hx⟩ : ∃ x, vs[h] = x := ⟨_, rfl⟩
   rw [hx] at HLD HC
   have hsum : IntKind.i64.wrap ((k : Int) + (l : Int)) = (k : Int) + (l : Int) := by rw [IntKind.wrap_i64]; omega
   clear hr0 hx ho HZK hlt' hlb
   go_upto_region 5 with (fail)
   have hhalf : ((k : Int) + (l : Int)) / 2 = (h : Int) := by omega
   simp only [hhalf]
   refine Reg.region_heavy (by kernel_rfl) 7 [7] (ledBs_prep b off h n cap pf x u o) (fun a => Below wr.heap.size wr a) (fun a => Below wr.heap.size wr a) (fun V => [(some 24, V 0), (some 25, V 1), (some 26, V 2), (some 27, V 3), (some 28, V 4), (some 29, V 5), (some 30, V 6), (some 31, V 7)]) (by kernel_rfl) (by kernel_rfl) (by kernel_rfl) (fun V => rfl) ?_ ?_ ?_
   ·exact (Below.refl _ _).drew
   ·intro i o ho
    have hi : i < 8 := (Array.getElem?_eq_some_iff.1 ho).1
    rcases i with _ | _ | _ | _ | _ | _ | _ | _ | i
    rotate_right
    ·omega
    all_goals obtain rfl := Option.some.inj ho
    all_goals intro ρ wi hE hI hs hd
    all_goals try dsimp only at hI
    ·have e2 : ρ (.tmp 2) = .func (.func 115) #[] #[.pointer (some ⟨pf, 0, none⟩)] := hs 2; exact Reg.gw hI
    ·have e0 : ρ (.tmp 0) = .slice (some ⟨b, off, none⟩) n cap := hs 0; exact Reg.gw hI
    ·have e11 : ρ (.tmp 11) = .int .i64 (h : Int) := hs 11; exact Reg.gw hI
    ·obtain ⟨_, rfl, e25⟩ := hd 1 25; obtain ⟨_, rfl, e26⟩ := hd 2 26; have q1 := HLT.out; exact Reg.gw hI
    ·obtain ⟨_, rfl, e27⟩ := hd 3 27
     exact Reg.Gives.value (v := .agg x.toArray) (w' := wi) (exec_load _ _ rfl _ _ (by assumption) (HLD.out wi hI)) (Reg.OwedH.same hI rfl)
    ·have e4 : ρ (.tmp 4) = .pointer (some ⟨w.heap.size, 0, none⟩) := hs 4; have ha := HU.out wi (HB.out.trans (hI.mono HB.out.size)); have y0 := ha.1; have y1 := ha.2.1; have y2 := ha.2.2; exact Reg.gw hI
    ·obtain ⟨_, rfl, e24⟩ := hd 0 24; obtain ⟨_, rfl, e28⟩ := hd 4 28; obtain ⟨_, rfl, e29⟩ := hd 5 29
     refine Reg.Gives.call (f := 115) (args := #[.agg x.toArray, .agg #[.int .i64 u.node, .int .i64 u.epoch, .int .i64 u.seq], .pointer (some ⟨pf, 0, none⟩)]) (w' := wi) (by go_simp) ?_
     refine (HC.out wi hI).mono ?_
     rintro e w'' ⟨rfl, hbb⟩
     exact ⟨_, rfl, ⟨rfl, hI.trans (hbb.mono hI.size), fun j u _ _ h => ledBs_prep_later hbb h⟩⟩
    ·obtain ⟨_, rfl, e30⟩ := hd 6 30; have hc := hE.const; exact Reg.gw hI
   ·intro V wa hV hI
    have hV7 : V 7 = .bool (decide (o < 0)) := hV 7 (by decide) rfl
    simp only [Reg.putsO, List.foldl_cons, List.foldl_nil, Act.put, List.setIfInBounds_toArray, List.set_cons_succ, List.set_cons_zero, hV7]
    replace hI : (fun a => Below wr.heap.size wr a) wa := hI
    clear hV hV7
    have HBA := Lib.hid (HB.out.trans (hI.mono HB.out.size))
    clear hI
    by_cases hneg : o < 0
    ·have HG2 : Hid (bsGo (m - 1) os (h + 1) l = F) := Lib.hid (by
      rw [← HGO.out, show m = (m - 1) + 1 by omega, bsGo_low (by omega) (by rw [HOS.out]; exact hneg), hh]
      simp)
     go_wp2_with fail
     go_roundw
     case rel => exact ⟨h + 1, l, m - 1, by omega, hln, by omega, by go_num, rfl, HG2, HBA⟩
     case measure => simp [intOf]; omega
    ·have HG2 : Hid (bsGo (m - 1) os k h = F) := Lib.hid (by
      rw [← HGO.out, show m = (m - 1) + 1 by omega, bsGo_high (by omega) (by rw [HOS.out]; exact hneg), hh]
      simp)
     go_wp2_with fail
     go_roundw
     case rel => exact ⟨k, h, m - 1, by omega, by omega, by omega, rfl, rfl, HG2, HBA⟩
     case measure => simp [intOf]; omega
  ·obtain rfl : k = l := by omega
   have HR : Hid (k = F) := Lib.hid (by rw [← HGO.out, bsGo_end])
   clear HGO hm
   by_cases hk : k < n
   ·obtain ⟨h, hh⟩ : ∃ h, k = h := ⟨_, rfl⟩
    subst hh
    have hlt' : k < vs.length := by have := HN.out; omega
    have hlb : k < os.length := by have := HBL.out; omega
    obtain ⟨b, off, hA, hr0⟩ := HH.out k hlt'
    subst hA
    have HZK := Lib.hid (HZ.out k hlt')
    have HLD : Hid (∀ wi, Below wr.heap.size wr wi → (loadVar 86 ⟨b, off + k * 5, none⟩).run Tryz.prog wi = .ok (.agg vs[k].toArray) wi) := Lib.hid fun wi hw => run_loadVar_mid wi b (off + k * 5) 86 vs[k] _ (range_later (range_later hr0 HB.out) hw) Tryz.underlying86 rfl (by rw [HZK.out]; kernel_rfl)
    have HC : Hid (∀ wi, Below wr.heap.size wr wi → Calls Tryz.prog 115 #[.agg vs[k].toArray, .agg #[.int .i64 u.node, .int .i64 u.epoch, .int .i64 u.seq], .pointer (some ⟨pf, 0, none⟩)] wi fun e w'' => e = .returned (.int .i64 os[k]) ∧ Below wi.heap.size wi w'') := Lib.hid fun wi hw => HT.out k hlt' hlb wi (HB.out.trans (hw.mono HB.out.size))
    have HLT := Lib.hid hk
    obtain ⟨o, ho⟩ : ∃ y, os[k] = y := ⟨_, rfl⟩
    rw [ho] at HC
    obtain ⟨x, hx⟩ : ∃ x, vs[k] = x := ⟨_, rfl⟩
    rw [hx] at HLD HC
    clear hr0 hx ho HZK hlt' hlb
    go_upto_region 8 with (fail)
    refine Reg.region_heavy (by kernel_rfl) 15 [14, 15] (ledBe_prep b off k n cap pf x u o) (fun a => Below wr.heap.size wr a) (fun a => Below wr.heap.size wr a) (fun V => [(some 35, V 0), (some 36, V 1), (some 37, V 2), (some 38, V 3), (some 39, V 4), (some 40, V 5), (some 41, V 6), (some 42, V 7), (some 43, V 8), (some 44, V 9), (some 45, V 10), (some 46, V 11), (some 47, V 12), (some 48, V 13), (some 6, V 14), (some 7, V 15)]) (by kernel_rfl) (by kernel_rfl) (by kernel_rfl) (fun V => rfl) ?_ ?_ ?_
    ·exact (Below.refl _ _).drew
    ·intro i o ho
     have hi : i < 16 := (Array.getElem?_eq_some_iff.1 ho).1
     rcases i with _ | _ | _ | _ | _ | _ | _ | _ | _ | _ | _ | _ | _ | _ | _ | _ | i
     rotate_right
     ·omega
     all_goals obtain rfl := Option.some.inj ho
     all_goals intro ρ wi hE hI hs hd
     all_goals try dsimp only at hI
     ·have e9 : ρ (.tmp 9) = .int .i64 (k : Int) := hs 9; exact Reg.gw hI
     ·have e9 : ρ (.tmp 9) = .int .i64 (k : Int) := hs 9; exact Reg.gw hI
     ·have e8 : ρ (.tmp 8) = .int .i64 (n : Int) := hs 8; exact Reg.gw hI
     ·obtain ⟨_, rfl, e36⟩ := hd 1 36; obtain ⟨_, rfl, e37⟩ := hd 2 37; have q1 := HLT.out; exact Reg.gw hI
     ·obtain ⟨_, rfl, e38⟩ := hd 3 38; exact Reg.gw hI
     ·have e2 : ρ (.tmp 2) = .func (.func 115) #[] #[.pointer (some ⟨pf, 0, none⟩)] := hs 2
      refine Reg.yes ?_
      exact Reg.gw hI
     ·have e0 : ρ (.tmp 0) = .slice (some ⟨b, off, none⟩) n cap := hs 0
      refine Reg.yes ?_
      exact Reg.gw hI
     ·have e9 : ρ (.tmp 9) = .int .i64 (k : Int) := hs 9
      refine Reg.yes ?_
      exact Reg.gw hI
     ·obtain ⟨_, rfl, e41⟩ := hd 6 41; obtain ⟨_, rfl, e42⟩ := hd 7 42
      refine Reg.yes ?_
      have q1 := HLT.out; exact Reg.gw hI
     ·obtain ⟨_, rfl, e43⟩ := hd 8 43
      refine Reg.yes ?_
      exact Reg.Gives.value (v := .agg x.toArray) (w' := wi) (exec_load _ _ rfl _ _ (by assumption) (HLD.out wi hI)) (Reg.OwedH.same hI rfl)
     ·have e4 : ρ (.tmp 4) = .pointer (some ⟨w.heap.size, 0, none⟩) := hs 4
      refine Reg.yes ?_
      have ha := HU.out wi (HB.out.trans (hI.mono HB.out.size)); have y0 := ha.1; have y1 := ha.2.1; have y2 := ha.2.2; exact Reg.gw hI
     ·obtain ⟨_, rfl, e40⟩ := hd 5 40; obtain ⟨_, rfl, e44⟩ := hd 9 44; obtain ⟨_, rfl, e45⟩ := hd 10 45
      refine Reg.yes ?_
      refine Reg.Gives.call (f := 115) (args := #[.agg x.toArray, .agg #[.int .i64 u.node, .int .i64 u.epoch, .int .i64 u.seq], .pointer (some ⟨pf, 0, none⟩)]) (w' := wi) (by go_simp) ?_
      refine (HC.out wi hI).mono ?_
      rintro e w'' ⟨rfl, hbb⟩
      exact ⟨_, rfl, ⟨rfl, hI.trans (hbb.mono hI.size), fun j u _ _ h => ledBe_prep_later hbb h⟩⟩
     ·obtain ⟨_, rfl, e46⟩ := hd 11 46; have hc := hE.const
      refine Reg.yes ?_
      exact Reg.gw hI
     ·obtain ⟨_, rfl, e39⟩ := hd 4 39; obtain ⟨_, rfl, e47⟩ := hd 12 47; have hc := hE.const; exact Reg.gw hI
     ·obtain ⟨_, rfl, e35⟩ := hd 0 35; exact Reg.gw hI
     ·obtain ⟨_, rfl, e48⟩ := hd 13 48; exact Reg.gw hI
    ·intro V wa hV hI
     have hV14 : V 14 = .int .i64 (k : Int) := hV 14 (by decide) rfl
     have hV15 : V 15 = .bool (o == 0) := hV 15 (by decide) rfl
     simp only [Reg.putsO, List.foldl_cons, List.foldl_nil, Act.put, List.setIfInBounds_toArray, List.set_cons_succ, List.set_cons_zero, hV14, hV15]
     replace hI : (fun a => Below wr.heap.size wr a) wa := hI
     clear hV hV14 hV15
     have HBA := Lib.hid (HB.out.trans (hI.mono HB.out.size))
     clear hI
     go_wp2_with fail
     go_returns
     exact ⟨⟨o == 0, by rw [← HR.out]; rfl⟩, HB0.out.trans (HBA.out.mono HB0.out.size)⟩
   ·have HLT := Lib.hid hk
    go_upto_region 8 with (fail)
    refine Reg.region_heavy (by kernel_rfl) 15 [14, 15] (ledBo_prep n k) (fun a => Below wr.heap.size wr a) (fun a => Below wr.heap.size wr a) (fun V => [(some 35, V 0), (some 36, V 1), (some 37, V 2), (some 38, V 3), (some 39, V 4), (some 40, V 5), (some 41, V 6), (some 42, V 7), (some 43, V 8), (some 44, V 9), (some 45, V 10), (some 46, V 11), (some 47, V 12), (some 48, V 13), (some 6, V 14), (some 7, V 15)]) (by kernel_rfl) (by kernel_rfl) (by kernel_rfl) (fun V => rfl) ?_ ?_ ?_
    ·exact (Below.refl _ _).drew
    ·intro i o ho
     have hi : i < 16 := (Array.getElem?_eq_some_iff.1 ho).1
     rcases i with _ | _ | _ | _ | _ | _ | _ | _ | _ | _ | _ | _ | _ | _ | _ | _ | i
     rotate_right
     ·omega
     all_goals obtain rfl := Option.some.inj ho
     all_goals intro ρ wi hE hI hs hd
     all_goals try dsimp only at hI
     ·have e9 : ρ (.tmp 9) = .int .i64 (k : Int) := hs 9; exact Reg.gw hI
     ·have e9 : ρ (.tmp 9) = .int .i64 (k : Int) := hs 9; exact Reg.gw hI
     ·have e8 : ρ (.tmp 8) = .int .i64 (n : Int) := hs 8; exact Reg.gw hI
     ·obtain ⟨_, rfl, e36⟩ := hd 1 36; obtain ⟨_, rfl, e37⟩ := hd 2 37; have q1 := HLT.out; exact Reg.gw hI
     ·obtain ⟨_, rfl, e38⟩ := hd 3 38; exact Reg.gw hI
     ·exact Reg.no hI
     ·exact Reg.no hI
     ·exact Reg.no hI
     ·exact Reg.no hI
     ·exact Reg.no hI
     ·exact Reg.no hI
     ·exact Reg.no hI
     ·exact Reg.no hI
     ·obtain ⟨_, rfl, e39⟩ := hd 4 39; obtain ⟨_, rfl, e47⟩ := hd 12 47; have hc := hE.const; exact Reg.gw hI
     ·obtain ⟨_, rfl, e35⟩ := hd 0 35; exact Reg.gw hI
     ·obtain ⟨_, rfl, e48⟩ := hd 13 48; exact Reg.gw hI
    ·intro V wa hV hI
     have hV14 : V 14 = .int .i64 (k : Int) := hV 14 (by decide) rfl
     have hV15 : V 15 = .bool false := hV 15 (by decide) rfl
     simp only [Reg.putsO, List.foldl_cons, List.foldl_nil, Act.put, List.setIfInBounds_toArray, List.set_cons_succ, List.set_cons_zero, hV14, hV15]
     replace hI : (fun a => Below wr.heap.size wr a) wa := hI
     clear hV hV14 hV15
     have HBA := Lib.hid (HB.out.trans (hI.mono HB.out.size))
     clear hI
     go_wp2_with fail
     go_returns
     exact ⟨⟨false, by rw [← HR.out]; rfl⟩, HB0.out.trans (HBA.out.mono HB0.out.size)⟩
set_option maxHeartbeats 1000000 in
/-- A list with one thing more, at its place by name. -/
theorem insert_prep (v : Value) (vs : List (List Value)) (os : List Int) (p : Pr) (y : Lay) (base : Nat) (w : World) (hbw : base ≤ w.heap.size) (hf : Fit 5 vs) (ho : w.ownsRow base 86 5 v vs.length vs.flatten) (hb : os.length = vs.length) (hl : vs.length ≤ 100000)
  (ht : ∀ k (hk : k < vs.length) (hk' : k < os.length), ∃ (q : Pr) (z : Lay), vs[k] = q.vals z ∧ os[k] = ord q.tid p.tid) :
  Calls Tryz.prog 101 #[v, .func (.func 48) #[] #[], .agg (p.vals y).toArray] w fun e w' =>
   ∃ v', e = .returned v' ∧ w'.ownsRow base 86 5 v' (vs.take (bsAt os) ++ p.vals y :: vs.drop (bsAt os)).length (vs.take (bsAt os) ++ p.vals y :: vs.drop (bsAt os)).flatten ∧ Only (fun k => some k = v.ownBlock) w w' ∧ (v'.ownBlock = v.ownBlock ∨ ∃ k, v'.ownBlock = some k ∧ w.heap.size ≤ k) := by
 have hle : bsAt os ≤ vs.length := by rw [← hb]; exact bsAt_le os
 obtain ⟨i, hi⟩ : ∃ i, bsAt os = i := ⟨_, rfl⟩
 obtain ⟨wb, hwb⟩ : ∃ v, v = (w.alloc (.cells #[.func (.func 48) #[] #[]] 100)).alloc (.cells #[.int .i64 p.tid.node, .int .i64 p.tid.epoch, .int .i64 p.tid.seq, .slice y.A p.items.length y.c, .slice y.B p.nodes.length y.d] 86) := ⟨_, rfl⟩
 have hb1 := below_alloc w (.cells #[.func (.func 48) #[] #[]] 100)
 have hb2 : Below w.heap.size w wb := by rw [hwb]; exact hb1.alloc hb1.size _
 have hfn : wb.cell? ⟨w.heap.size, 0, none⟩ = some (.func (.func 48) #[] #[]) := by
  rw [hwb]
  exact ((cells_new w 100 [.func (.func 48) #[] #[]] _ rfl).later (below_alloc _ _)).cell (j := 0) rfl
 have hx : Cells wb (w.heap.size + 1) 86 [.int .i64 p.tid.node, .int .i64 p.tid.epoch, .int .i64 p.tid.seq, .slice y.A p.items.length y.c, .slice y.B p.nodes.length y.d] := by
  rw [hwb]
  have h := cells_new (w.alloc (.cells #[.func (.func 48) #[] #[]] 100)) 86 [.int .i64 p.tid.node, .int .i64 p.tid.epoch, .int .i64 p.tid.seq, .slice y.A p.items.length y.c, .slice y.B p.nodes.length y.d] _ rfl
  rw [World.size_alloc] at h
  exact h
 obtain ⟨A, cA, hv, hsl, _, _⟩ := own_sl ho hf.len
 have HBS : Hid (∀ wi, Below wb.heap.size wb wi → Calls Tryz.prog 114 #[.slice A vs.length cA, p.tid.val, .func (.func 115) #[] #[.pointer (some ⟨w.heap.size, 0, none⟩)]] wi fun e w' => (∃ z, e = .returned (.tuple #[.int .i64 (i : Nat), .bool z])) ∧ Below wi.heap.size wi w') := Lib.hid fun wi hw => by
  rw [← hi]
  refine bs_prep A vs os cA p.tid w.heap.size wi (hsl.later (hb2.trans (hw.mono hb2.size))) (fun k hk => hf.len _ (List.getElem_mem hk)) hb hl fun k hk hk' w' hw' => ?_
  obtain ⟨q, z, e1, e2⟩ := ht k hk hk'
  rw [e1, e2]
  exact insEq_prep q z w.heap.size p.tid w' (((hw.trans (hw'.mono hw.size)).cell (block_of_cell hfn)).trans hfn)
 have HINS : Hid (∀ wi gx, Below wb.heap.size wb wi → wb.heap.size ≤ gx → wi.heap[gx]? = some (.cells #[.int .i64 p.tid.node, .int .i64 p.tid.epoch, .int .i64 p.tid.seq, .slice y.A p.items.length y.c, .slice y.B p.nodes.length y.d] 86 (0, 0)) → Calls Tryz.prog 117 #[.slice A vs.length cA, .int .i64 (i : Int), .slice (some ⟨gx, 0, none⟩) 1 1] wi fun e w' =>
   ∃ v', e = .returned v' ∧ w'.ownsRow base 86 5 v' (vs.take i ++ p.vals y :: vs.drop i).length (vs.take i ++ p.vals y :: vs.drop i).flatten ∧ Only (fun k => some k = v.ownBlock) w w' ∧ (v'.ownBlock = v.ownBlock ∨ ∃ k, v'.ownBlock = some k ∧ w.heap.size ≤ k)) := Lib.hid fun wi gx hw hgx hc => by
  have hwi := hb2.trans (hw.mono hb2.size)
  rw [← hv]
  refine (ins_prep v i vs (p.vals y) gx base wi (Nat.le_trans hbw hwi.size) hf rfl (pr_one p y) (by omega) (row_only ho (Only.of_below (S := fun _ => False) hwi) fun _ _ e => e) hc (fun e => ?_) hl).mono ?_
  ·have h1 := (ho.lt gx e).2
   have h2 := hb2.size
   omega
  ·rintro e w' ⟨v', rfl, k1, k2, k3⟩
   refine ⟨v', rfl, k1, (Only.of_below hwi).trans k2 fun _ _ h => h, ?_⟩
   rcases k3 with k3 | k3
   ·exact Or.inl k3
   ·exact Or.inr ⟨_, k3, hwi.size⟩
 have HFN := Lib.hid (fun wi (h : Below wb.heap.size wb wi) => (h.cell (block_of_cell hfn)).trans hfn)
 have HX := Lib.hid (fun wi (h : Below wb.heap.size wb wi) => hx.later h)
 have HN := Lib.hid (fun wi => name_prep p y wi)
 rw [hi]
 obtain ⟨L, hL⟩ : ∃ L, vs.take i ++ p.vals y :: vs.drop i = L := ⟨_, rfl⟩
 rw [hL] at HINS ⊢
 obtain ⟨o, hob⟩ : ∃ o, v.ownBlock = o := ⟨_, rfl⟩
 rw [hob] at HINS ⊢
 subst hv
 obtain ⟨n, hn⟩ : ∃ n, vs.length = n := ⟨_, rfl⟩
 rw [hn] at HINS HBS ⊢
 have HLI := Lib.hid hle
 clear hle hi hL hob hn hb1 hb2 hfn hx hsl ht hb hl hf ho
 unfold Pr.vals at HN ⊢
 unfold Tid.val at HN HBS
 go_enter Tryz.func101, Tryz.ntmps101
 go_wp2_with fail
 rw [← hwb]
 clear hwb
 refine (HN.out wb).mono ?_
 rintro e w2 ⟨rfl, hb2⟩
 have HB2 := Lib.hid hb2
 clear hb2
 go_wp2_with fail
 refine (HBS.out w2 HB2.out).mono ?_
 rintro e w3 ⟨⟨z, rfl⟩, hb3⟩
 have HB3 : Hid (Below wb.heap.size wb w3) := Lib.hid (HB2.out.trans (hb3.mono HB2.out.size))
 have hcx := HX.out w3 HB3.out
 have z0 := hcx.cell (j := 0) rfl
 have z1 := hcx.cell (j := 1) rfl
 have z2 := hcx.cell (j := 2) rfl
 have z3 := hcx.cell (j := 3) rfl
 have z4 := hcx.cell (j := 4) rfl
 have HC : Hid (Below wb.heap.size wb (w3.alloc (.cells #[.int .i64 p.tid.node, .int .i64 p.tid.epoch, .int .i64 p.tid.seq, .slice y.A p.items.length y.c, .slice y.B p.nodes.length y.d] 86)) ∧ wb.heap.size ≤ w3.heap.size ∧ (w3.alloc (.cells #[.int .i64 p.tid.node, .int .i64 p.tid.epoch, .int .i64 p.tid.seq, .slice y.A p.items.length y.c, .slice y.B p.nodes.length y.d] 86)).heap[w3.heap.size]? = some (.cells #[.int .i64 p.tid.node, .int .i64 p.tid.epoch, .int .i64 p.tid.seq, .slice y.A p.items.length y.c, .slice y.B p.nodes.length y.d] 86 (0, 0))) :=
  Lib.hid ⟨HB3.out.trans ((below_alloc _ _).mono HB3.out.size), HB3.out.size, by show (w3.heap.push _)[w3.heap.size]? = _; exact Array.getElem?_push_size⟩
 clear hb3 hcx
 go_wp2_with fail
 refine (HINS.out _ _ HC.out.1 HC.out.2.1 HC.out.2.2).mono ?_
 rintro e w' ⟨v', rfl, k1, k2, k3⟩
 have HK := Lib.hid (And.intro k1 (And.intro k2 k3))
 clear k1 k2 k3
 go_wp2_with fail
 go_returns
 exact ⟨_, rfl, HK.out.1, HK.out.2.1, HK.out.2.2⟩
def ledIns_dec (p : De) (u : Tid) : Nat → Value → World → Prop
 | 0, v, _ => v = .func (.func 50) #[] #[]
 | 1, v, _ => v = .agg #[.int .i64 p.tid.node, .int .i64 p.tid.epoch, .int .i64 p.tid.seq, .bool p.yes]
 | 2, v, _ => v = .agg #[.int .i64 p.tid.node, .int .i64 p.tid.epoch, .int .i64 p.tid.seq]
 | 3, v, _ => v = .agg #[.int .i64 u.node, .int .i64 u.epoch, .int .i64 u.seq]
 | 4, v, _ => v = .int .i64 (ord p.tid u)
 | 5, v, _ => v = .int .i64 (ord p.tid u)
 | _, _, _ => True
theorem ledIns_dec_later {p : De} {u : Tid} {j : Nat} {v : Value} {w w' : World} (_hb : Below w.heap.size w w') (h : ledIns_dec p u j v w) : ledIns_dec p u j v w' := by
 match j, h with
 | 0, h | 1, h | 2, h | 3, h | 4, h | 5, h => exact h
 | _ + 6, _ => exact trivial
set_option maxHeartbeats 1000000 in
theorem insEq_dec (p : De) (pf : Nat) (u : Tid) (w : World) (hf : w.cell? ⟨pf, 0, none⟩ = some (.func (.func 50) #[] #[])) :
  Calls Tryz.prog 126 #[.agg (p.vals).toArray, u.val, .pointer (some ⟨pf, 0, none⟩)] w fun e w' => e = .returned (.int .i64 (ord p.tid u)) ∧ Below w.heap.size w w' := by
 have HN := Lib.hid (fun wi => name_dec p wi)
 obtain ⟨wb, hwb⟩ : ∃ v, v = (w.alloc (.cells #[.int .i64 p.tid.node, .int .i64 p.tid.epoch, .int .i64 p.tid.seq, .bool p.yes] 87)).alloc (.cells #[.int .i64 u.node, .int .i64 u.epoch, .int .i64 u.seq] 47) := ⟨_, rfl⟩
 have hb1 := below_alloc w (.cells #[.int .i64 p.tid.node, .int .i64 p.tid.epoch, .int .i64 p.tid.seq, .bool p.yes] 87)
 have hb : Below w.heap.size w wb := by rw [hwb]; exact hb1.alloc hb1.size _
 have hu : Cells wb (w.heap.size + 1) 47 [.int .i64 u.node, .int .i64 u.epoch, .int .i64 u.seq] := by
  rw [hwb]
  have h := cells_new (w.alloc (.cells #[.int .i64 p.tid.node, .int .i64 p.tid.epoch, .int .i64 p.tid.seq, .bool p.yes] 87)) 47 [.int .i64 u.node, .int .i64 u.epoch, .int .i64 u.seq] _ rfl
  rw [World.size_alloc] at h
  exact h
 have HF := Lib.hid (fun wi (h : Below wb.heap.size wb wi) => (h.cell (block_of_cell ((hb.cell (block_of_cell hf)).trans hf))).trans ((hb.cell (block_of_cell hf)).trans hf))
 have HU := Lib.hid (drop3 hu)
 have HX := Lib.hid (fun wi (h : Below wb.heap.size wb wi) => (show Cells wb w.heap.size 87 [.int .i64 p.tid.node, .int .i64 p.tid.epoch, .int .i64 p.tid.seq, .bool p.yes] by rw [hwb]; exact (cells_new _ _ _ _ rfl).later (below_alloc _ _)).later h)
 have HB := Lib.hid hb
 unfold De.vals at HN ⊢
 unfold Tid.val at HN ⊢
 clear hf hu hb hb1
 go_enter Tryz.func126, Tryz.ntmps126
 go_wp2_with fail
 rw [← hwb]
 refine Reg.region_heavy (by kernel_rfl) 5 [5] (ledIns_dec p u) (fun a => Below wb.heap.size wb a) (fun a => Below wb.heap.size wb a) (fun V => [(some 6, V 0), (some 7, V 1), (some 8, V 2), (some 9, V 3), (some 10, V 4), (some 5, V 5)]) (by kernel_rfl) (by kernel_rfl) (by kernel_rfl) (fun V => rfl) ?_ ?_ ?_
 ·exact (Below.refl _ _).drew
 ·intro i o ho
  have hi : i < 6 := (Array.getElem?_eq_some_iff.1 ho).1
  rcases i with _ | _ | _ | _ | _ | _ | i
  rotate_right
  ·omega
  all_goals obtain rfl := Option.some.inj ho
  all_goals intro ρ wi hE hI hs hd
  all_goals try dsimp only at hI
  ·have e2 : ρ (.tmp 2) = .pointer (some ⟨pf, 0, none⟩) := hs 2; have x0 := HF.out wi hI; exact Reg.gw hI
  ·have e3 : ρ (.tmp 3) = .pointer (some ⟨w.heap.size, 0, none⟩) := hs 3; have hcx := HX.out wi hI; have z0 := hcx.cell (j := 0) rfl; have z1 := hcx.cell (j := 1) rfl; have z2 := hcx.cell (j := 2) rfl; have z3 := hcx.cell (j := 3) rfl; exact Reg.gw hI
  ·obtain ⟨_, rfl, e6⟩ := hd 0 6; obtain ⟨_, rfl, e7⟩ := hd 1 7
   refine Reg.Gives.call (f := 50) (args := #[.agg #[.int .i64 p.tid.node, .int .i64 p.tid.epoch, .int .i64 p.tid.seq, .bool p.yes]]) (w' := wi) (by go_simp) ?_
   refine (HN.out wi).mono ?_
   rintro e w'' ⟨rfl, hbb⟩
   exact ⟨_, rfl, ⟨rfl, hI.trans (hbb.mono hI.size), fun j u _ _ h => ledIns_dec_later hbb h⟩⟩
  ·have e4 : ρ (.tmp 4) = .pointer (some ⟨w.heap.size + 1, 0, none⟩) := hs 4; have ha := HU.out wi hI; have y0 := ha.1; have y1 := ha.2.1; have y2 := ha.2.2; exact Reg.gw hI
  ·obtain ⟨_, rfl, e8⟩ := hd 2 8; obtain ⟨_, rfl, e9⟩ := hd 3 9; have hf := hE.func
   refine Reg.Gives.call (f := 116) (args := #[.agg #[.int .i64 p.tid.node, .int .i64 p.tid.epoch, .int .i64 p.tid.seq], .agg #[.int .i64 u.node, .int .i64 u.epoch, .int .i64 u.seq]]) (w' := wi) (by go_simp) ?_
   refine (order_any p.tid u wi).mono ?_
   rintro e w'' ⟨rfl, hbb⟩
   exact ⟨_, rfl, ⟨rfl, hI.trans (hbb.mono hI.size), fun j u _ _ h => ledIns_dec_later hbb h⟩⟩
  ·obtain ⟨_, rfl, e10⟩ := hd 4 10; exact Reg.gw hI
 ·intro V wa hV hI
  have hV5 : V 5 = .int .i64 (ord p.tid u) := hV 5 (by decide) rfl
  simp only [Reg.putsO, List.foldl_cons, List.foldl_nil, Act.put, List.setIfInBounds_toArray, List.set_cons_succ, List.set_cons_zero, hV5]
  replace hI : (fun a => Below wb.heap.size wb a) wa := hI
  clear hV hV5
  go_wp2_with fail
  go_returns
  exact ⟨rfl, HB.out.trans (hI.mono HB.out.size)⟩
def ledBs_dec (b off k : Nat) (n cap pf : Nat) (x : List Value) (u : Tid) (o : Int) : Nat → Value → World → Prop
 | 0, v, _ => v = .func (.func 126) #[] #[.pointer (some ⟨pf, 0, none⟩)]
 | 1, v, _ => v = .slice (some ⟨b, off, none⟩) n cap
 | 2, v, _ => v = .int .i64 (k : Int)
 | 3, v, _ => v = .pointer (some ⟨b, off + k * 4, none⟩)
 | 4, v, _ => v = .agg x.toArray
 | 5, v, _ => v = .agg #[.int .i64 u.node, .int .i64 u.epoch, .int .i64 u.seq]
 | 6, v, _ => v = .int .i64 o
 | 7, v, _ => v = .bool (decide (o < 0))
 | _, _, _ => True
theorem ledBs_dec_later {b off k : Nat} {n cap pf : Nat} {x : List Value} {u : Tid} {o : Int} {j : Nat} {v : Value} {w w' : World} (_hb : Below w.heap.size w w') (h : ledBs_dec b off k n cap pf x u o j v w) : ledBs_dec b off k n cap pf x u o j v w' := by
 match j, h with
 | 0, h | 1, h | 2, h | 3, h | 4, h | 5, h | 6, h | 7, h => exact h
 | _ + 8, _ => exact trivial
def ledBe_dec (b off k : Nat) (n cap pf : Nat) (x : List Value) (u : Tid) (o : Int) : Nat → Value → World → Prop
 | 0, v, _ => v = .int .i64 (k : Int)
 | 1, v, _ => v = .int .i64 (k : Int)
 | 2, v, _ => v = .int .i64 (n : Int)
 | 3, v, _ => v = .bool true
 | 4, v, _ => v = .bool true
 | 5, v, _ => v = .func (.func 126) #[] #[.pointer (some ⟨pf, 0, none⟩)]
 | 6, v, _ => v = .slice (some ⟨b, off, none⟩) n cap
 | 7, v, _ => v = .int .i64 (k : Int)
 | 8, v, _ => v = .pointer (some ⟨b, off + k * 4, none⟩)
 | 9, v, _ => v = .agg x.toArray
 | 10, v, _ => v = .agg #[.int .i64 u.node, .int .i64 u.epoch, .int .i64 u.seq]
 | 11, v, _ => v = .int .i64 o
 | 12, v, _ => v = .bool (o == 0)
 | 13, v, _ => v = .bool (o == 0)
 | 14, v, _ => v = .int .i64 (k : Int)
 | 15, v, _ => v = .bool (o == 0)
 | _, _, _ => True
theorem ledBe_dec_later {b off k : Nat} {n cap pf : Nat} {x : List Value} {u : Tid} {o : Int} {j : Nat} {v : Value} {w w' : World} (_hb : Below w.heap.size w w') (h : ledBe_dec b off k n cap pf x u o j v w) : ledBe_dec b off k n cap pf x u o j v w' := by
 match j, h with
 | 0, h | 1, h | 2, h | 3, h | 4, h | 5, h | 6, h | 7, h | 8, h | 9, h | 10, h | 11, h | 12, h | 13, h | 14, h | 15, h => exact h
 | _ + 16, _ => exact trivial
def ledBo_dec (n k : Nat) : Nat → Value → World → Prop
 | 0, v, _ => v = .int .i64 (k : Int)
 | 1, v, _ => v = .int .i64 (k : Int)
 | 2, v, _ => v = .int .i64 (n : Int)
 | 3, v, _ => v = .bool false
 | 4, v, _ => v = .bool false
 | 5, v, _ => v = undef
 | 6, v, _ => v = undef
 | 7, v, _ => v = undef
 | 8, v, _ => v = undef
 | 9, v, _ => v = undef
 | 10, v, _ => v = undef
 | 11, v, _ => v = undef
 | 12, v, _ => v = undef
 | 13, v, _ => v = .bool false
 | 14, v, _ => v = .int .i64 (k : Int)
 | 15, v, _ => v = .bool false
 | _, _, _ => True
set_option maxHeartbeats 2000000 in
theorem bs_dec (A : Option Addr) (vs : List (List Value)) (os : List Int) (cap : Nat) (u : Tid) (pf : Nat) (w : World) (h : Sl w A 4 vs) (hz : ∀ k (hk : k < vs.length), vs[k].length = 4) (hb : os.length = vs.length) (hl : vs.length ≤ 100000)
  (ht : ∀ k (hk : k < vs.length) (hk' : k < os.length) w', Below w.heap.size w w' → Calls Tryz.prog 126 #[.agg vs[k].toArray, u.val, .pointer (some ⟨pf, 0, none⟩)] w' fun e w'' => e = .returned (.int .i64 os[k]) ∧ Below w'.heap.size w' w'') :
  Calls Tryz.prog 125 #[.slice A vs.length cap, u.val, .func (.func 126) #[] #[.pointer (some ⟨pf, 0, none⟩)]] w fun e w' => (∃ z, e = .returned (.tuple #[.int .i64 (bsAt os : Nat), .bool z])) ∧ Below w.heap.size w w' := by
 obtain ⟨wb, hwb⟩ : ∃ v, v = w.alloc (.cells #[.int .i64 u.node, .int .i64 u.epoch, .int .i64 u.seq] 47) := ⟨_, rfl⟩
 have hb0 : Below w.heap.size w wb := by rw [hwb]; exact below_alloc _ _
 have hu : Cells wb w.heap.size 47 [.int .i64 u.node, .int .i64 u.epoch, .int .i64 u.seq] := by rw [hwb]; exact cells_new _ _ _ _ rfl
 have HH := Lib.hid (h.later hb0)
 have HT : Hid (∀ k (hk : k < vs.length) (hk' : k < os.length) w', Below wb.heap.size wb w' → Calls Tryz.prog 126 #[.agg vs[k].toArray, u.val, .pointer (some ⟨pf, 0, none⟩)] w' fun e w'' => e = .returned (.int .i64 os[k]) ∧ Below w'.heap.size w' w'') := Lib.hid fun k hk hk' w' hw => ht k hk hk' w' (hb0.trans (hw.mono hb0.size))
 have HZ := Lib.hid hz
 have HU := Lib.hid (drop3 hu)
 have HB0 := Lib.hid hb0
 have HG : Hid (w.heap.size < wb.heap.size) := Lib.hid hu.lt
 obtain ⟨F, hF⟩ : ∃ F, bsAt os = F := ⟨_, rfl⟩
 have HF := Lib.hid hF
 rw [hF]
 obtain ⟨n, hn⟩ : ∃ n, vs.length = n := ⟨_, rfl⟩
 have HN := Lib.hid hn
 have HBL := Lib.hid hb
 rw [hn] at hl ⊢
 unfold Tid.val at HT ⊢
 clear h hF hn hb ht hz hb0 hu
 go_enter Tryz.func125, Tryz.ntmps125
 go_wp2_with fail
 rw [← hwb]
 go_loopw [9, 10] (fun i j wr => ∃ k l m : Nat, k ≤ l ∧ l ≤ n ∧ l - k ≤ m ∧ i = .int .i64 (k : Int) ∧ j = .int .i64 (l : Int) ∧ Hid (bsGo m os k l = F) ∧ Hid (Below wb.heap.size wb wr)) (fun i j _ => (intOf j).toNat - (intOf i).toNat)
 case atStart => exact ⟨0, n, n, Nat.zero_le _, Nat.le_refl _, Nat.le_refl _, rfl, rfl, Lib.hid (by have h := HF.out; unfold bsAt at h; rw [HBL.out, HN.out] at h; exact h), Lib.hid (Below.refl _ _)⟩
 case round =>
  obtain ⟨k, l, m, hkl, hln, hm, rfl, rfl, HGO, HB⟩ := hrel
  by_cases hlt : k < l
  ·obtain ⟨h, hh⟩ : ∃ h, (k + l) / 2 = h := ⟨_, rfl⟩
   have hhn : h < n := by omega
   have hkh : k ≤ h := by omega
   have hhl : h < l := by omega
   have hlt' : h < vs.length := by have := HN.out; omega
   have hlb : h < os.length := by have := HBL.out; omega
   obtain ⟨b, off, hA, hr0⟩ := HH.out h hlt'
   subst hA
   have HZK := Lib.hid (HZ.out h hlt')
   have HLD : Hid (∀ wi, Below wr.heap.size wr wi → (loadVar 87 ⟨b, off + h * 4, none⟩).run Tryz.prog wi = .ok (.agg vs[h].toArray) wi) := Lib.hid fun wi hw => run_loadVar_mid wi b (off + h * 4) 87 vs[h] _ (range_later (range_later hr0 HB.out) hw) Tryz.underlying87 rfl (by rw [HZK.out]; kernel_rfl)
   have HC : Hid (∀ wi, Below wr.heap.size wr wi → Calls Tryz.prog 126 #[.agg vs[h].toArray, .agg #[.int .i64 u.node, .int .i64 u.epoch, .int .i64 u.seq], .pointer (some ⟨pf, 0, none⟩)] wi fun e w'' => e = .returned (.int .i64 os[h]) ∧ Below wi.heap.size wi w'') := Lib.hid fun wi hw => HT.out h hlt' hlb wi (HB.out.trans (hw.mono HB.out.size))
   have HLT := Lib.hid hhn
   obtain ⟨o, ho⟩ : ∃ y, os[h] = y := ⟨_, rfl⟩
   have HOS : Hid ((os[(k + l) / 2]?).getD 0 = o) := Lib.hid (by rw [hh, List.getElem?_eq_getElem hlb, ho]; rfl)
   rw [ho] at HC
   obtain ⟨x, hx⟩ : ∃ x, vs[h] = x := ⟨_, rfl⟩
   rw [hx] at HLD HC
   have hsum : IntKind.i64.wrap ((k : Int) + (l : Int)) = (k : Int) + (l : Int) := by rw [IntKind.wrap_i64]; omega
   clear hr0 hx ho HZK hlt' hlb
   go_upto_region 5 with (fail)
   have hhalf : ((k : Int) + (l : Int)) / 2 = (h : Int) := by omega
   simp only [hhalf]
   refine Reg.region_heavy (by kernel_rfl) 7 [7] (ledBs_dec b off h n cap pf x u o) (fun a => Below wr.heap.size wr a) (fun a => Below wr.heap.size wr a) (fun V => [(some 24, V 0), (some 25, V 1), (some 26, V 2), (some 27, V 3), (some 28, V 4), (some 29, V 5), (some 30, V 6), (some 31, V 7)]) (by kernel_rfl) (by kernel_rfl) (by kernel_rfl) (fun V => rfl) ?_ ?_ ?_
   ·exact (Below.refl _ _).drew
   ·intro i o ho
    have hi : i < 8 := (Array.getElem?_eq_some_iff.1 ho).1
    rcases i with _ | _ | _ | _ | _ | _ | _ | _ | i
    rotate_right
    ·omega
    all_goals obtain rfl := Option.some.inj ho
    all_goals intro ρ wi hE hI hs hd
    all_goals try dsimp only at hI
    ·have e2 : ρ (.tmp 2) = .func (.func 126) #[] #[.pointer (some ⟨pf, 0, none⟩)] := hs 2; exact Reg.gw hI
    ·have e0 : ρ (.tmp 0) = .slice (some ⟨b, off, none⟩) n cap := hs 0; exact Reg.gw hI
    ·have e11 : ρ (.tmp 11) = .int .i64 (h : Int) := hs 11; exact Reg.gw hI
    ·obtain ⟨_, rfl, e25⟩ := hd 1 25; obtain ⟨_, rfl, e26⟩ := hd 2 26; have q1 := HLT.out; exact Reg.gw hI
    ·obtain ⟨_, rfl, e27⟩ := hd 3 27
     exact Reg.Gives.value (v := .agg x.toArray) (w' := wi) (exec_load _ _ rfl _ _ (by assumption) (HLD.out wi hI)) (Reg.OwedH.same hI rfl)
    ·have e4 : ρ (.tmp 4) = .pointer (some ⟨w.heap.size, 0, none⟩) := hs 4; have ha := HU.out wi (HB.out.trans (hI.mono HB.out.size)); have y0 := ha.1; have y1 := ha.2.1; have y2 := ha.2.2; exact Reg.gw hI
    ·obtain ⟨_, rfl, e24⟩ := hd 0 24; obtain ⟨_, rfl, e28⟩ := hd 4 28; obtain ⟨_, rfl, e29⟩ := hd 5 29
     refine Reg.Gives.call (f := 126) (args := #[.agg x.toArray, .agg #[.int .i64 u.node, .int .i64 u.epoch, .int .i64 u.seq], .pointer (some ⟨pf, 0, none⟩)]) (w' := wi) (by go_simp) ?_
     refine (HC.out wi hI).mono ?_
     rintro e w'' ⟨rfl, hbb⟩
     exact ⟨_, rfl, ⟨rfl, hI.trans (hbb.mono hI.size), fun j u _ _ h => ledBs_dec_later hbb h⟩⟩
    ·obtain ⟨_, rfl, e30⟩ := hd 6 30; have hc := hE.const; exact Reg.gw hI
   ·intro V wa hV hI
    have hV7 : V 7 = .bool (decide (o < 0)) := hV 7 (by decide) rfl
    simp only [Reg.putsO, List.foldl_cons, List.foldl_nil, Act.put, List.setIfInBounds_toArray, List.set_cons_succ, List.set_cons_zero, hV7]
    replace hI : (fun a => Below wr.heap.size wr a) wa := hI
    clear hV hV7
    have HBA := Lib.hid (HB.out.trans (hI.mono HB.out.size))
    clear hI
    by_cases hneg : o < 0
    ·have HG2 : Hid (bsGo (m - 1) os (h + 1) l = F) := Lib.hid (by
      rw [← HGO.out, show m = (m - 1) + 1 by omega, bsGo_low (by omega) (by rw [HOS.out]; exact hneg), hh]
      simp)
     go_wp2_with fail
     go_roundw
     case rel => exact ⟨h + 1, l, m - 1, by omega, hln, by omega, by go_num, rfl, HG2, HBA⟩
     case measure => simp [intOf]; omega
    ·have HG2 : Hid (bsGo (m - 1) os k h = F) := Lib.hid (by
      rw [← HGO.out, show m = (m - 1) + 1 by omega, bsGo_high (by omega) (by rw [HOS.out]; exact hneg), hh]
      simp)
     go_wp2_with fail
     go_roundw
     case rel => exact ⟨k, h, m - 1, by omega, by omega, by omega, rfl, rfl, HG2, HBA⟩
     case measure => simp [intOf]; omega
  ·obtain rfl : k = l := by omega
   have HR : Hid (k = F) := Lib.hid (by rw [← HGO.out, bsGo_end])
   clear HGO hm
   by_cases hk : k < n
   ·obtain ⟨h, hh⟩ : ∃ h, k = h := ⟨_, rfl⟩
    subst hh
    have hlt' : k < vs.length := by have := HN.out; omega
    have hlb : k < os.length := by have := HBL.out; omega
    obtain ⟨b, off, hA, hr0⟩ := HH.out k hlt'
    subst hA
    have HZK := Lib.hid (HZ.out k hlt')
    have HLD : Hid (∀ wi, Below wr.heap.size wr wi → (loadVar 87 ⟨b, off + k * 4, none⟩).run Tryz.prog wi = .ok (.agg vs[k].toArray) wi) := Lib.hid fun wi hw => run_loadVar_mid wi b (off + k * 4) 87 vs[k] _ (range_later (range_later hr0 HB.out) hw) Tryz.underlying87 rfl (by rw [HZK.out]; kernel_rfl)
    have HC : Hid (∀ wi, Below wr.heap.size wr wi → Calls Tryz.prog 126 #[.agg vs[k].toArray, .agg #[.int .i64 u.node, .int .i64 u.epoch, .int .i64 u.seq], .pointer (some ⟨pf, 0, none⟩)] wi fun e w'' => e = .returned (.int .i64 os[k]) ∧ Below wi.heap.size wi w'') := Lib.hid fun wi hw => HT.out k hlt' hlb wi (HB.out.trans (hw.mono HB.out.size))
    have HLT := Lib.hid hk
    obtain ⟨o, ho⟩ : ∃ y, os[k] = y := ⟨_, rfl⟩
    rw [ho] at HC
    obtain ⟨x, hx⟩ : ∃ x, vs[k] = x := ⟨_, rfl⟩
    rw [hx] at HLD HC
    clear hr0 hx ho HZK hlt' hlb
    go_upto_region 8 with (fail)
    refine Reg.region_heavy (by kernel_rfl) 15 [14, 15] (ledBe_dec b off k n cap pf x u o) (fun a => Below wr.heap.size wr a) (fun a => Below wr.heap.size wr a) (fun V => [(some 35, V 0), (some 36, V 1), (some 37, V 2), (some 38, V 3), (some 39, V 4), (some 40, V 5), (some 41, V 6), (some 42, V 7), (some 43, V 8), (some 44, V 9), (some 45, V 10), (some 46, V 11), (some 47, V 12), (some 48, V 13), (some 6, V 14), (some 7, V 15)]) (by kernel_rfl) (by kernel_rfl) (by kernel_rfl) (fun V => rfl) ?_ ?_ ?_
    ·exact (Below.refl _ _).drew
    ·intro i o ho
     have hi : i < 16 := (Array.getElem?_eq_some_iff.1 ho).1
     rcases i with _ | _ | _ | _ | _ | _ | _ | _ | _ | _ | _ | _ | _ | _ | _ | _ | i
     rotate_right
     ·omega
     all_goals obtain rfl := Option.some.inj ho
     all_goals intro ρ wi hE hI hs hd
     all_goals try dsimp only at hI
     ·have e9 : ρ (.tmp 9) = .int .i64 (k : Int) := hs 9; exact Reg.gw hI
     ·have e9 : ρ (.tmp 9) = .int .i64 (k : Int) := hs 9; exact Reg.gw hI
     ·have e8 : ρ (.tmp 8) = .int .i64 (n : Int) := hs 8; exact Reg.gw hI
     ·obtain ⟨_, rfl, e36⟩ := hd 1 36; obtain ⟨_, rfl, e37⟩ := hd 2 37; have q1 := HLT.out; exact Reg.gw hI
     ·obtain ⟨_, rfl, e38⟩ := hd 3 38; exact Reg.gw hI
     ·have e2 : ρ (.tmp 2) = .func (.func 126) #[] #[.pointer (some ⟨pf, 0, none⟩)] := hs 2
      refine Reg.yes ?_
      exact Reg.gw hI
     ·have e0 : ρ (.tmp 0) = .slice (some ⟨b, off, none⟩) n cap := hs 0
      refine Reg.yes ?_
      exact Reg.gw hI
     ·have e9 : ρ (.tmp 9) = .int .i64 (k : Int) := hs 9
      refine Reg.yes ?_
      exact Reg.gw hI
     ·obtain ⟨_, rfl, e41⟩ := hd 6 41; obtain ⟨_, rfl, e42⟩ := hd 7 42
      refine Reg.yes ?_
      have q1 := HLT.out; exact Reg.gw hI
     ·obtain ⟨_, rfl, e43⟩ := hd 8 43
      refine Reg.yes ?_
      exact Reg.Gives.value (v := .agg x.toArray) (w' := wi) (exec_load _ _ rfl _ _ (by assumption) (HLD.out wi hI)) (Reg.OwedH.same hI rfl)
     ·have e4 : ρ (.tmp 4) = .pointer (some ⟨w.heap.size, 0, none⟩) := hs 4
      refine Reg.yes ?_
      have ha := HU.out wi (HB.out.trans (hI.mono HB.out.size)); have y0 := ha.1; have y1 := ha.2.1; have y2 := ha.2.2; exact Reg.gw hI
     ·obtain ⟨_, rfl, e40⟩ := hd 5 40; obtain ⟨_, rfl, e44⟩ := hd 9 44; obtain ⟨_, rfl, e45⟩ := hd 10 45
      refine Reg.yes ?_
      refine Reg.Gives.call (f := 126) (args := #[.agg x.toArray, .agg #[.int .i64 u.node, .int .i64 u.epoch, .int .i64 u.seq], .pointer (some ⟨pf, 0, none⟩)]) (w' := wi) (by go_simp) ?_
      refine (HC.out wi hI).mono ?_
      rintro e w'' ⟨rfl, hbb⟩
      exact ⟨_, rfl, ⟨rfl, hI.trans (hbb.mono hI.size), fun j u _ _ h => ledBe_dec_later hbb h⟩⟩
     ·obtain ⟨_, rfl, e46⟩ := hd 11 46; have hc := hE.const
      refine Reg.yes ?_
      exact Reg.gw hI
     ·obtain ⟨_, rfl, e39⟩ := hd 4 39; obtain ⟨_, rfl, e47⟩ := hd 12 47; have hc := hE.const; exact Reg.gw hI
     ·obtain ⟨_, rfl, e35⟩ := hd 0 35; exact Reg.gw hI
     ·obtain ⟨_, rfl, e48⟩ := hd 13 48; exact Reg.gw hI
    ·intro V wa hV hI
     have hV14 : V 14 = .int .i64 (k : Int) := hV 14 (by decide) rfl
     have hV15 : V 15 = .bool (o == 0) := hV 15 (by decide) rfl
     simp only [Reg.putsO, List.foldl_cons, List.foldl_nil, Act.put, List.setIfInBounds_toArray, List.set_cons_succ, List.set_cons_zero, hV14, hV15]
     replace hI : (fun a => Below wr.heap.size wr a) wa := hI
     clear hV hV14 hV15
     have HBA := Lib.hid (HB.out.trans (hI.mono HB.out.size))
     clear hI
     go_wp2_with fail
     go_returns
     exact ⟨⟨o == 0, by rw [← HR.out]; rfl⟩, HB0.out.trans (HBA.out.mono HB0.out.size)⟩
   ·have HLT := Lib.hid hk
    go_upto_region 8 with (fail)
    refine Reg.region_heavy (by kernel_rfl) 15 [14, 15] (ledBo_dec n k) (fun a => Below wr.heap.size wr a) (fun a => Below wr.heap.size wr a) (fun V => [(some 35, V 0), (some 36, V 1), (some 37, V 2), (some 38, V 3), (some 39, V 4), (some 40, V 5), (some 41, V 6), (some 42, V 7), (some 43, V 8), (some 44, V 9), (some 45, V 10), (some 46, V 11), (some 47, V 12), (some 48, V 13), (some 6, V 14), (some 7, V 15)]) (by kernel_rfl) (by kernel_rfl) (by kernel_rfl) (fun V => rfl) ?_ ?_ ?_
    ·exact (Below.refl _ _).drew
    ·intro i o ho
     have hi : i < 16 := (Array.getElem?_eq_some_iff.1 ho).1
     rcases i with _ | _ | _ | _ | _ | _ | _ | _ | _ | _ | _ | _ | _ | _ | _ | _ | i
     rotate_right
     ·omega
     all_goals obtain rfl := Option.some.inj ho
     all_goals intro ρ wi hE hI hs hd
     all_goals try dsimp only at hI
     ·have e9 : ρ (.tmp 9) = .int .i64 (k : Int) := hs 9; exact Reg.gw hI
     ·have e9 : ρ (.tmp 9) = .int .i64 (k : Int) := hs 9; exact Reg.gw hI
     ·have e8 : ρ (.tmp 8) = .int .i64 (n : Int) := hs 8; exact Reg.gw hI
     ·obtain ⟨_, rfl, e36⟩ := hd 1 36; obtain ⟨_, rfl, e37⟩ := hd 2 37; have q1 := HLT.out; exact Reg.gw hI
     ·obtain ⟨_, rfl, e38⟩ := hd 3 38; exact Reg.gw hI
     ·exact Reg.no hI
     ·exact Reg.no hI
     ·exact Reg.no hI
     ·exact Reg.no hI
     ·exact Reg.no hI
     ·exact Reg.no hI
     ·exact Reg.no hI
     ·exact Reg.no hI
     ·obtain ⟨_, rfl, e39⟩ := hd 4 39; obtain ⟨_, rfl, e47⟩ := hd 12 47; have hc := hE.const; exact Reg.gw hI
     ·obtain ⟨_, rfl, e35⟩ := hd 0 35; exact Reg.gw hI
     ·obtain ⟨_, rfl, e48⟩ := hd 13 48; exact Reg.gw hI
    ·intro V wa hV hI
     have hV14 : V 14 = .int .i64 (k : Int) := hV 14 (by decide) rfl
     have hV15 : V 15 = .bool false := hV 15 (by decide) rfl
     simp only [Reg.putsO, List.foldl_cons, List.foldl_nil, Act.put, List.setIfInBounds_toArray, List.set_cons_succ, List.set_cons_zero, hV14, hV15]
     replace hI : (fun a => Below wr.heap.size wr a) wa := hI
     clear hV hV14 hV15
     have HBA := Lib.hid (HB.out.trans (hI.mono HB.out.size))
     clear hI
     go_wp2_with fail
     go_returns
     exact ⟨⟨false, by rw [← HR.out]; rfl⟩, HB0.out.trans (HBA.out.mono HB0.out.size)⟩
set_option maxHeartbeats 1000000 in
/-- A list with one thing more, at its place by name. -/
theorem insert_dec (v : Value) (vs : List (List Value)) (os : List Int) (p : De) (base : Nat) (w : World) (hbw : base ≤ w.heap.size) (hf : Fit 4 vs) (ho : w.ownsRow base 87 4 v vs.length vs.flatten) (hb : os.length = vs.length) (hl : vs.length ≤ 100000)
  (ht : ∀ k (hk : k < vs.length) (hk' : k < os.length), ∃ q : De, vs[k] = q.vals ∧ os[k] = ord q.tid p.tid) :
  Calls Tryz.prog 119 #[v, .func (.func 50) #[] #[], .agg (p.vals).toArray] w fun e w' =>
   ∃ v', e = .returned v' ∧ w'.ownsRow base 87 4 v' (vs.take (bsAt os) ++ p.vals :: vs.drop (bsAt os)).length (vs.take (bsAt os) ++ p.vals :: vs.drop (bsAt os)).flatten ∧ Only (fun k => some k = v.ownBlock) w w' ∧ (v'.ownBlock = v.ownBlock ∨ ∃ k, v'.ownBlock = some k ∧ w.heap.size ≤ k) := by
 have hle : bsAt os ≤ vs.length := by rw [← hb]; exact bsAt_le os
 obtain ⟨i, hi⟩ : ∃ i, bsAt os = i := ⟨_, rfl⟩
 obtain ⟨wb, hwb⟩ : ∃ v, v = (w.alloc (.cells #[.func (.func 50) #[] #[]] 103)).alloc (.cells #[.int .i64 p.tid.node, .int .i64 p.tid.epoch, .int .i64 p.tid.seq, .bool p.yes] 87) := ⟨_, rfl⟩
 have hb1 := below_alloc w (.cells #[.func (.func 50) #[] #[]] 103)
 have hb2 : Below w.heap.size w wb := by rw [hwb]; exact hb1.alloc hb1.size _
 have hfn : wb.cell? ⟨w.heap.size, 0, none⟩ = some (.func (.func 50) #[] #[]) := by
  rw [hwb]
  exact ((cells_new w 103 [.func (.func 50) #[] #[]] _ rfl).later (below_alloc _ _)).cell (j := 0) rfl
 have hx : Cells wb (w.heap.size + 1) 87 [.int .i64 p.tid.node, .int .i64 p.tid.epoch, .int .i64 p.tid.seq, .bool p.yes] := by
  rw [hwb]
  have h := cells_new (w.alloc (.cells #[.func (.func 50) #[] #[]] 103)) 87 [.int .i64 p.tid.node, .int .i64 p.tid.epoch, .int .i64 p.tid.seq, .bool p.yes] _ rfl
  rw [World.size_alloc] at h
  exact h
 obtain ⟨A, cA, hv, hsl, _, _⟩ := own_sl ho hf.len
 have HBS : Hid (∀ wi, Below wb.heap.size wb wi → Calls Tryz.prog 125 #[.slice A vs.length cA, p.tid.val, .func (.func 126) #[] #[.pointer (some ⟨w.heap.size, 0, none⟩)]] wi fun e w' => (∃ z, e = .returned (.tuple #[.int .i64 (i : Nat), .bool z])) ∧ Below wi.heap.size wi w') := Lib.hid fun wi hw => by
  rw [← hi]
  refine bs_dec A vs os cA p.tid w.heap.size wi (hsl.later (hb2.trans (hw.mono hb2.size))) (fun k hk => hf.len _ (List.getElem_mem hk)) hb hl fun k hk hk' w' hw' => ?_
  obtain ⟨q, e1, e2⟩ := ht k hk hk'
  rw [e1, e2]
  exact insEq_dec q w.heap.size p.tid w' (((hw.trans (hw'.mono hw.size)).cell (block_of_cell hfn)).trans hfn)
 have HINS : Hid (∀ wi gx, Below wb.heap.size wb wi → wb.heap.size ≤ gx → wi.heap[gx]? = some (.cells #[.int .i64 p.tid.node, .int .i64 p.tid.epoch, .int .i64 p.tid.seq, .bool p.yes] 87 (0, 0)) → Calls Tryz.prog 127 #[.slice A vs.length cA, .int .i64 (i : Int), .slice (some ⟨gx, 0, none⟩) 1 1] wi fun e w' =>
   ∃ v', e = .returned v' ∧ w'.ownsRow base 87 4 v' (vs.take i ++ p.vals :: vs.drop i).length (vs.take i ++ p.vals :: vs.drop i).flatten ∧ Only (fun k => some k = v.ownBlock) w w' ∧ (v'.ownBlock = v.ownBlock ∨ ∃ k, v'.ownBlock = some k ∧ w.heap.size ≤ k)) := Lib.hid fun wi gx hw hgx hc => by
  have hwi := hb2.trans (hw.mono hb2.size)
  rw [← hv]
  refine (ins_dec v i vs (p.vals) gx base wi (Nat.le_trans hbw hwi.size) hf rfl (de_one p) (by omega) (row_only ho (Only.of_below (S := fun _ => False) hwi) fun _ _ e => e) hc (fun e => ?_) hl).mono ?_
  ·have h1 := (ho.lt gx e).2
   have h2 := hb2.size
   omega
  ·rintro e w' ⟨v', rfl, k1, k2, k3⟩
   refine ⟨v', rfl, k1, (Only.of_below hwi).trans k2 fun _ _ h => h, ?_⟩
   rcases k3 with k3 | k3
   ·exact Or.inl k3
   ·exact Or.inr ⟨_, k3, hwi.size⟩
 have HFN := Lib.hid (fun wi (h : Below wb.heap.size wb wi) => (h.cell (block_of_cell hfn)).trans hfn)
 have HX := Lib.hid (fun wi (h : Below wb.heap.size wb wi) => hx.later h)
 have HN := Lib.hid (fun wi => name_dec p wi)
 rw [hi]
 obtain ⟨L, hL⟩ : ∃ L, vs.take i ++ p.vals :: vs.drop i = L := ⟨_, rfl⟩
 rw [hL] at HINS ⊢
 obtain ⟨o, hob⟩ : ∃ o, v.ownBlock = o := ⟨_, rfl⟩
 rw [hob] at HINS ⊢
 subst hv
 obtain ⟨n, hn⟩ : ∃ n, vs.length = n := ⟨_, rfl⟩
 rw [hn] at HINS HBS ⊢
 have HLI := Lib.hid hle
 clear hle hi hL hob hn hb1 hb2 hfn hx hsl ht hb hl hf ho
 unfold De.vals at HN ⊢
 unfold Tid.val at HN HBS
 go_enter Tryz.func119, Tryz.ntmps119
 go_wp2_with fail
 rw [← hwb]
 clear hwb
 refine (HN.out wb).mono ?_
 rintro e w2 ⟨rfl, hb2⟩
 have HB2 := Lib.hid hb2
 clear hb2
 go_wp2_with fail
 refine (HBS.out w2 HB2.out).mono ?_
 rintro e w3 ⟨⟨z, rfl⟩, hb3⟩
 have HB3 : Hid (Below wb.heap.size wb w3) := Lib.hid (HB2.out.trans (hb3.mono HB2.out.size))
 have hcx := HX.out w3 HB3.out
 have z0 := hcx.cell (j := 0) rfl
 have z1 := hcx.cell (j := 1) rfl
 have z2 := hcx.cell (j := 2) rfl
 have z3 := hcx.cell (j := 3) rfl
 have HC : Hid (Below wb.heap.size wb (w3.alloc (.cells #[.int .i64 p.tid.node, .int .i64 p.tid.epoch, .int .i64 p.tid.seq, .bool p.yes] 87)) ∧ wb.heap.size ≤ w3.heap.size ∧ (w3.alloc (.cells #[.int .i64 p.tid.node, .int .i64 p.tid.epoch, .int .i64 p.tid.seq, .bool p.yes] 87)).heap[w3.heap.size]? = some (.cells #[.int .i64 p.tid.node, .int .i64 p.tid.epoch, .int .i64 p.tid.seq, .bool p.yes] 87 (0, 0))) :=
  Lib.hid ⟨HB3.out.trans ((below_alloc _ _).mono HB3.out.size), HB3.out.size, by show (w3.heap.push _)[w3.heap.size]? = _; exact Array.getElem?_push_size⟩
 clear hb3 hcx
 go_wp2_with fail
 refine (HINS.out _ _ HC.out.1 HC.out.2.1 HC.out.2.2).mono ?_
 rintro e w' ⟨v', rfl, k1, k2, k3⟩
 have HK := Lib.hid (And.intro k1 (And.intro k2 k3))
 clear k1 k2 k3
 go_wp2_with fail
 go_returns
 exact ⟨_, rfl, HK.out.1, HK.out.2.1, HK.out.2.2⟩
end Go.Proofs.YtalhbblmnahcdaaGreat.Led
