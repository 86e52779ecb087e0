/- Part 16 of the proof. Conditions: none. -/
import Derived.Test.YtdkchpiinelmiaaGreatZ13
import Derived.Test.YtdkchpiinelmiaaGreatZ15
namespace Go.Proofs.YtdkchpiinelmiaaGreat.Led
set_option maxRecDepth 100000
open Go.RowKit Go.Deep Mem fN Rec
def jd : Nat -> List Int -> Nat -> Nat -> Nat
 | 0, _, i, _ => i
 | m + 1, os, i, j => if i < j then (if (os[(i + j) / 2]?).getD 0 < 0 then jd m os ((i + j) / 2 + 1) j else jd m os i ((i + j) / 2)) else i
def fC (os : List Int) : Nat := jd os.length os 0 os.length
theorem vX (os : List Int) : ∀ (m i j : Nat), i <= j -> jd m os i j <= j
 | 0, _, _, h => h
 | m + 1, i, j, h => by
  unfold jd
  split
  ·split
   ·exact vX os m _ _ (by omega)
   exact Nat.le_trans (vX os m _ _ (by omega)) (by omega)
  exact h
theorem mB (os : List Int) : fC os <= os.length := vX os _ _ _ (Nat.zero_le _)
theorem xZ {m : Nat} {os : List Int} {i j : Nat} (h : i < j) (ho : (os[(i + j) / 2]?).getD 0 < 0) : jd (m + 1) os i j = jd m os ((i + j) / 2 + 1) j := by
 conv => lhs; unfold jd
 rw [if_pos h, if_pos ho]
theorem vp {m : Nat} {os : List Int} {i j : Nat} (h : i < j) (ho : ¬ (os[(i + j) / 2]?).getD 0 < 0) : jd (m + 1) os i j = jd m os i ((i + j) / 2) := by
 conv => lhs; unfold jd
 rw [if_pos h, if_neg ho]
theorem yg (m : Nat) (os : List Int) (i : Nat) : jd m os i i = i := by
 cases m with
 | zero => rfl
 | succ m => unfold jd; rw [if_neg (Nat.lt_irrefl i)]
def yL (p : Pr) (y : Lay) (u : cT) : Nat -> Value -> World -> Prop := N.tb [.inl (.func (.func 42) #[] #[]), .inl (.agg #[.int .i64 p.tid.node, .int .i64 p.tid.epoch, .int .i64 p.tid.seq, .slice y.A p.items.length y.c, .slice y.B p.nodes.length y.d]), .inl (.agg #[.int .i64 p.tid.node, .int .i64 p.tid.epoch, .int .i64 p.tid.seq]), .inl (.agg #[.int .i64 u.node, .int .i64 u.epoch, .int .i64 u.seq]), .inl (.int .i64 (ord p.tid u)), .inl (.int .i64 (ord p.tid u))]
set_option maxHeartbeats 1000000 in
theorem Aw (p : Pr) (y : Lay) (pf : Nat) (u : cT) (w : World) (hf : w.cell? ⟨pf, 0, none⟩ = some (.func (.func 42) #[] #[])) :
  Calls Tryz.prog 109 #[.agg (p.vals y).toArray, u.val, (au pf)] w fun e w' => e = .returned (iv (ord p.tid u)) /\ Below w.heap.size w w' := by
 have HN := ak (fun wi => qH p y wi); obtain ⟨wb, hwb⟩ := aj ((w.alloc (.cells #[iv p.tid.node, iv p.tid.epoch, iv p.tid.seq, .slice y.A p.items.length y.c, .slice y.B p.nodes.length y.d] 78)).alloc (.cells #[iv u.node, iv u.epoch, iv u.seq] 47)); have hb1 := av w (.cells #[iv p.tid.node, iv p.tid.epoch, iv p.tid.seq, .slice y.A p.items.length y.c, .slice y.B p.nodes.length y.d] 78); have hb : Below w.heap.size w wb := by rw [hwb]; exact hb1.alloc hb1.size _
 have hu : Cells wb (w.heap.size + 1) 47 [iv u.node, iv u.epoch, iv u.seq] := by
  rw [hwb]; have h := aB (w.alloc (.cells #[iv p.tid.node, iv p.tid.epoch, iv p.tid.seq, .slice y.A p.items.length y.c, .slice y.B p.nodes.length y.d] 78)) 47 [iv u.node, iv u.epoch, iv u.seq] _ rfl; rw [World.size_alloc] at h; exact h
 have HF := ak (fun wi (h : Below wb.heap.size wb wi) => (h.cell (aH ((hb.cell (aH hf)).trans hf))).trans ((hb.cell (aH hf)).trans hf)); have HU := ak (sK hu); have HX := ak (fun wi (h : Below wb.heap.size wb wi) => (show Cells wb w.heap.size 78 [iv p.tid.node, iv p.tid.epoch, iv p.tid.seq, .slice y.A p.items.length y.c, .slice y.B p.nodes.length y.d] by rw [hwb]; exact (aB _ _ _ _ rfl).later (av _ _)).later h)
 have HB := ak hb; unfold Pr.vals at HN ⊢; unfold cT.val at HN ⊢; clear hf hu hb hb1
 go_enter Tryz.func109, Tryz.ntmps109
 go_wp2_with fail
 rw [<- hwb]; refine N.rb 5 [5] (yL p y u) wb (fun V => [(some 6, V 0), (some 7, V 1), (some 8, V 2), (some 9, V 3), (some 10, V 4), (some 5, V 5)]) ?_ ?_
 ·intro i o ho
  have hi : i < 6 := (Array.getElem?_eq_some_iff.1 ho).1; rcases i with _ | _ | _ | _ | _ | _ | i
  rotate_right
  ·omega
  all_goals obtain rfl := Option.some.inj ho
  all_goals intro ρ wi hE hI hs hd
  all_goals try dsimp only at hI
  ·have e2 : ρ (.tmp 2) = (au pf) := hs 2; have x0 := HF.o wi hI; exact N.gw hI
  ·have e3 : ρ (.tmp 3) = (au w.heap.size) := hs 3; have hcx := HX.o wi hI; obtain ⟨z0, z1, z2, z3, z4⟩ := hcx.q5; exact N.gw hI
  ·obtain ⟨_, rfl, e6⟩ := hd 0 6; obtain ⟨_, rfl, e7⟩ := hd 1 7
   refine N.Gives.call (f := 42) (args := #[.agg #[iv p.tid.node, iv p.tid.epoch, iv p.tid.seq, .slice y.A p.items.length y.c, .slice y.B p.nodes.length y.d]]) (w' := wi) (by go_simp) ?_; refine (HN.o wi).mono ?_; rintro e w'' ⟨rfl, hbb⟩; exact ⟨_, rfl, ⟨rfl, hI.trans (hbb.mono hI.size), fun j u _ _ h => N.tz h⟩⟩
  ·have e4 : ρ (.tmp 4) = (au (w.heap.size + 1)) := hs 4; have ha := HU.o wi hI; have y0 := ha.1; have y1 := ha.2.1; have y2 := ha.2.2; exact N.gw hI
  ·obtain ⟨_, rfl, e8⟩ := hd 2 8; obtain ⟨_, rfl, e9⟩ := hd 3 9; have hf := hE.func
   refine N.Gives.call (f := 110) (args := #[.agg #[iv p.tid.node, iv p.tid.epoch, iv p.tid.seq], .agg #[iv u.node, iv u.epoch, iv u.seq]]) (w' := wi) (by go_simp) ?_; refine (uW p.tid u wi).mono ?_; rintro e w'' ⟨rfl, hbb⟩; exact ⟨_, rfl, ⟨rfl, hI.trans (hbb.mono hI.size), fun j u _ _ h => N.tz h⟩⟩
  obtain ⟨_, rfl, e10⟩ := hd 4 10; exact N.gw hI
 intro V wa hV hI
 have Bg : V 5 = iv (ord p.tid u) := hV 5 (by decide) rfl; simp only [N.aP, List.foldl_cons, List.foldl_nil, Act.put, List.setIfInBounds_toArray, List.set_cons_succ, List.set_cons_zero, Bg]; replace hI : (fun a => Below wb.heap.size wb a) wa := hI; clear hV Bg
 go_wp2_with fail
 go_returns
 exact ⟨rfl, HB.o.trans (hI.mono HB.o.size)⟩
def Ap (b off k : Nat) (n cap pf : Nat) (x : List Value) (u : cT) (o : Int) : Nat -> Value -> World -> Prop := N.tb [.inl (.func (.func 109) #[] #[.pointer (some ⟨pf, 0, none⟩)]), .inl (.slice (some ⟨b, off, none⟩) n cap), .inl (.int .i64 (k : Int)), .inl (.pointer (some ⟨b, off + k * 5, none⟩)), .inl (.agg x.toArray), .inl (.agg #[.int .i64 u.node, .int .i64 u.epoch, .int .i64 u.seq]), .inl (.int .i64 o), .inl (.bool (decide (o < 0)))]
def Ar (b off k : Nat) (n cap pf : Nat) (x : List Value) (u : cT) (o : Int) : Nat -> Value -> World -> Prop := N.tb [.inl (.int .i64 (k : Int)), .inl (.int .i64 (k : Int)), .inl (.int .i64 (n : Int)), .inl (.bool true), .inl (.bool true), .inl (.func (.func 109) #[] #[.pointer (some ⟨pf, 0, none⟩)]), .inl (.slice (some ⟨b, off, none⟩) n cap), .inl (.int .i64 (k : Int)), .inl (.pointer (some ⟨b, off + k * 5, none⟩)), .inl (.agg x.toArray), .inl (.agg #[.int .i64 u.node, .int .i64 u.epoch, .int .i64 u.seq]), .inl (.int .i64 o), .inl (.bool (o == 0)), .inl (.bool (o == 0)), .inl (.int .i64 (k : Int)), .inl (.bool (o == 0))]
def Aq (n k : Nat) : Nat -> Value -> World -> Prop := N.tb [.inl (.int .i64 (k : Int)), .inl (.int .i64 (k : Int)), .inl (.int .i64 (n : Int)), .inl (.bool false), .inl (.bool false), .inl (undef), .inl (undef), .inl (undef), .inl (undef), .inl (undef), .inl (undef), .inl (undef), .inl (undef), .inl (.bool false), .inl (.int .i64 (k : Int)), .inl (.bool false)]
set_option maxHeartbeats 2000000 in
theorem Kn (A : Option Addr) (vs : List (List Value)) (os : List Int) (cap : Nat) (u : cT) (pf : Nat) (w : World) (h : Sl w A 5 vs) (hz : ∀ k (hk : k < vs.length), vs[k].length = 5) (hb : os.length = vs.length) (hl : vs.length <= 100000)
  (ht : ∀ k (hk : k < vs.length) (hk' : k < os.length) w', Below w.heap.size w w' -> Calls Tryz.prog 109 #[.agg vs[k].toArray, u.val, (au pf)] w' fun e w'' => e = .returned (iv os[k]) /\ Below w'.heap.size w' w'') :
  Calls Tryz.prog 108 #[.slice A vs.length cap, u.val, .func (.func 109) #[] #[(au pf)]] w fun e w' => (∃ z, e = .returned (.tuple #[iv (fC os : Nat), .bool z])) /\ Below w.heap.size w w' := by
 obtain ⟨wb, hwb⟩ := aj (w.alloc (.cells #[iv u.node, iv u.epoch, iv u.seq] 47)); have hb0 : Below w.heap.size w wb := by rw [hwb]; exact av _ _
 have hu : Cells wb w.heap.size 47 [iv u.node, iv u.epoch, iv u.seq] := by rw [hwb]; exact aB _ _ _ _ rfl
 have HH := ak (h.later hb0); have HT : Hid (∀ k (hk : k < vs.length) (hk' : k < os.length) w', Below wb.heap.size wb w' -> Calls Tryz.prog 109 #[.agg vs[k].toArray, u.val, (au pf)] w' fun e w'' => e = .returned (iv os[k]) /\ Below w'.heap.size w' w'') := ak fun k hk hk' w' hw => ht k hk hk' w' (hb0.trans (hw.mono hb0.size))
 have HZ := ak hz; have HU := ak (sK hu); have mX := ak hb0; have HG : Hid (w.heap.size < wb.heap.size) := ak hu.lt; obtain ⟨F, hF⟩ := ah (fC os); have HF := ak hF; rw [hF]; obtain ⟨n, hn⟩ := ah vs.length; have HN := ak hn; have kd := ak hb; rw [hn] at hl ⊢; unfold cT.val at HT ⊢; clear h hF hn hb ht hz hb0 hu
 go_enter Tryz.func108, Tryz.ntmps108
 go_wp2_with fail
 rw [<- hwb]
 go_loopw [9, 10] (fun i j wr => ∃ k l m : Nat, k <= l /\ l <= n /\ l - k <= m /\ i = iv (k : Int) /\ j = iv (l : Int) /\ Hid (jd m os k l = F) /\ Hid (Below wb.heap.size wb wr)) (fun i j _ => (intOf j).toNat - (intOf i).toNat)
 case atStart => exact ⟨0, n, n, Nat.zero_le _, Nat.le_refl _, Nat.le_refl _, rfl, rfl, ak (by have h := HF.o; unfold fC at h; rw [kd.o, HN.o] at h; exact h), ak (Below.refl _ _)⟩
 case round =>
  obtain ⟨k, l, m, hkl, UR, hm, rfl, rfl, Gc, HB⟩ := hrel
  by_cases hlt : k < l
  ·obtain ⟨h, hh⟩ := ah ((k + l) / 2)
   have Uj : h < n := by omega
   have hkh : k <= h := by omega
   have hhl : h < l := by omega
   have hlt' : h < vs.length := by have := HN.o; omega
   have hlb : h < os.length := by have := kd.o; omega
   obtain ⟨b, off, hA, bS⟩ := HH.o h hlt'; subst hA; have qV := ak (HZ.o h hlt'); have Ga : Hid (∀ wi, Below wr.heap.size wr wi -> (loadVar 78 ⟨b, off + h * 5, none⟩).run Tryz.prog wi = .ok (.agg vs[h].toArray) wi) := ak fun wi hw => run_loadVar_mid wi b (off + h * 5) 78 vs[h] _ (aM (aM bS HB.o) hw) Tryz.underlying78 rfl (by rw [qV.o]; kernel_rfl)
   have HC : Hid (∀ wi, Below wr.heap.size wr wi -> Calls Tryz.prog 109 #[.agg vs[h].toArray, .agg #[iv u.node, iv u.epoch, iv u.seq], (au pf)] wi fun e w'' => e = .returned (iv os[h]) /\ Below wi.heap.size wi w'') := ak fun wi hw => HT.o h hlt' hlb wi (HB.o.trans (hw.mono HB.o.size))
   have mU := ak Uj; obtain ⟨o, ho⟩ := ah (os[h]); have Vm : Hid ((os[(k + l) / 2]?).getD 0 = o) := ak (by rw [hh, List.getElem?_eq_getElem hlb, ho]; rfl); rw [ho] at HC; obtain ⟨x, hx⟩ := ah (vs[h]); rw [hx] at Ga HC; have Zh : IntKind.i64.wrap ((k : Int) + (l : Int)) = (k : Int) + (l : Int) := by rw [IntKind.wrap_i64]; omega
   clear bS hx ho qV hlt' hlb
   go_upto_region 5 with (fail)
   have GJ : ((k : Int) + (l : Int)) / 2 = (h : Int) := by omega
   simp only [GJ]; refine N.rb 7 [7] (Ap b off h n cap pf x u o) wr (fun V => [(some 24, V 0), (some 25, V 1), (some 26, V 2), (some 27, V 3), (some 28, V 4), (some 29, V 5), (some 30, V 6), (some 31, V 7)]) ?_ ?_
   ·intro i o ho
    have hi : i < 8 := (Array.getElem?_eq_some_iff.1 ho).1; rcases i with _ | _ | _ | _ | _ | _ | _ | _ | i
    rotate_right
    ·omega
    all_goals obtain rfl := Option.some.inj ho
    all_goals intro ρ wi hE hI hs hd
    all_goals try dsimp only at hI
    ·have e2 : ρ (.tmp 2) = .func (.func 109) #[] #[(au pf)] := hs 2; exact N.gw hI
    ·have e0 : ρ (.tmp 0) = .slice (some ⟨b, off, none⟩) n cap := hs 0; exact N.gw hI
    ·have e11 : ρ (.tmp 11) = iv (h : Int) := hs 11; exact N.gw hI
    ·obtain ⟨_, rfl, DK⟩ := hd 1 25; obtain ⟨_, rfl, zj⟩ := hd 2 26; have q1 := mU.o; exact N.gw hI
    ·obtain ⟨_, rfl, Bn⟩ := hd 3 27
     exact N.Gives.value (v := .agg x.toArray) (w' := wi) (aQ _ _ rfl _ _ (by assumption) (Ga.o wi hI)) (N.bA.same hI rfl)
    ·have e4 : ρ (.tmp 4) = (au w.heap.size) := hs 4; have ha := HU.o wi (HB.o.trans (hI.mono HB.o.size)); have y0 := ha.1; have y1 := ha.2.1; have y2 := ha.2.2; exact N.gw hI
    ·obtain ⟨_, rfl, DL⟩ := hd 0 24; obtain ⟨_, rfl, Bl⟩ := hd 4 28; obtain ⟨_, rfl, wK⟩ := hd 5 29
     refine N.Gives.call (f := 109) (args := #[.agg x.toArray, .agg #[iv u.node, iv u.epoch, iv u.seq], (au pf)]) (w' := wi) (by go_simp) ?_; refine (HC.o wi hI).mono ?_; rintro e w'' ⟨rfl, hbb⟩; exact ⟨_, rfl, ⟨rfl, hI.trans (hbb.mono hI.size), fun j u _ _ h => N.tz h⟩⟩
    obtain ⟨_, rfl, e30⟩ := hd 6 30; have hc := hE.const; exact N.gw hI
   intro V wa hV hI
   have jr : V 7 = .bool (decide (o < 0)) := hV 7 (by decide) rfl; simp only [N.aP, List.foldl_cons, List.foldl_nil, Act.put, List.setIfInBounds_toArray, List.set_cons_succ, List.set_cons_zero, jr]; replace hI : (fun a => Below wr.heap.size wr a) wa := hI; clear hV jr; have gG := ak (HB.o.trans (hI.mono HB.o.size)); clear hI
   by_cases hneg : o < 0
   ·have HG2 : Hid (jd (m - 1) os (h + 1) l = F) := ak (by
     rw [<- Gc.o, show m = (m - 1) + 1 by omega, xZ (by omega) (by rw [Vm.o]; exact hneg), hh]
     simp)
    go_wp2_with fail
    go_roundw
    case rel => exact ⟨h + 1, l, m - 1, by omega, UR, by omega, by go_num, rfl, HG2, gG⟩
    case measure => simp [intOf]; omega
   have HG2 : Hid (jd (m - 1) os k h = F) := ak (by
    rw [<- Gc.o, show m = (m - 1) + 1 by omega, vp (by omega) (by rw [Vm.o]; exact hneg), hh]
    simp)
   go_wp2_with fail
   go_roundw
   case rel => exact ⟨k, h, m - 1, by omega, by omega, by omega, rfl, rfl, HG2, gG⟩
   case measure => simp [intOf]; omega
  obtain rfl : k = l := by omega
  have HR : Hid (k = F) := ak (by rw [<- Gc.o, yg]); clear Gc hm
  by_cases hk : k < n
  ·obtain ⟨h, hh⟩ := ah k
   subst hh; have hlt' : k < vs.length := by have := HN.o; omega
   have hlb : k < os.length := by have := kd.o; omega
   obtain ⟨b, off, hA, bS⟩ := HH.o k hlt'; subst hA; have qV := ak (HZ.o k hlt'); have Ga : Hid (∀ wi, Below wr.heap.size wr wi -> (loadVar 78 ⟨b, off + k * 5, none⟩).run Tryz.prog wi = .ok (.agg vs[k].toArray) wi) := ak fun wi hw => run_loadVar_mid wi b (off + k * 5) 78 vs[k] _ (aM (aM bS HB.o) hw) Tryz.underlying78 rfl (by rw [qV.o]; kernel_rfl)
   have HC : Hid (∀ wi, Below wr.heap.size wr wi -> Calls Tryz.prog 109 #[.agg vs[k].toArray, .agg #[iv u.node, iv u.epoch, iv u.seq], (au pf)] wi fun e w'' => e = .returned (iv os[k]) /\ Below wi.heap.size wi w'') := ak fun wi hw => HT.o k hlt' hlb wi (HB.o.trans (hw.mono HB.o.size))
   have mU := ak hk; obtain ⟨o, ho⟩ := ah (os[k]); rw [ho] at HC; obtain ⟨x, hx⟩ := ah (vs[k]); rw [hx] at Ga HC; clear bS hx ho qV hlt' hlb
   go_upto_region 8 with (fail)
   refine N.rb 15 [14, 15] (Ar b off k n cap pf x u o) wr (fun V => [(some 35, V 0), (some 36, V 1), (some 37, V 2), (some 38, V 3), (some 39, V 4), (some 40, V 5), (some 41, V 6), (some 42, V 7), (some 43, V 8), (some 44, V 9), (some 45, V 10), (some 46, V 11), (some 47, V 12), (some 48, V 13), (some 6, V 14), (some 7, V 15)]) ?_ ?_
   ·intro i o ho
    have hi : i < 16 := (Array.getElem?_eq_some_iff.1 ho).1; rcases i with _ | _ | _ | _ | _ | _ | _ | _ | _ | _ | _ | _ | _ | _ | _ | _ | i
    rotate_right
    ·omega
    all_goals obtain rfl := Option.some.inj ho
    all_goals intro ρ wi hE hI hs hd
    all_goals try dsimp only at hI
    all_goals (have e9 : ρ (.tmp 9) = iv (k : Int) := hs 9; have hc := hE.const)
    iterate 2 ·exact N.gw hI
    ·have e8 : ρ (.tmp 8) = iv (n : Int) := hs 8; exact N.gw hI
    ·obtain ⟨_, rfl, r8⟩ := hd 1 36; obtain ⟨_, rfl, zi⟩ := hd 2 37; have q1 := mU.o; exact N.gw hI
    ·obtain ⟨_, rfl, e38⟩ := hd 3 38; exact N.gw hI
    ·have e2 : ρ (.tmp 2) = .func (.func 109) #[] #[(au pf)] := hs 2
     refine N.yes ?_; exact N.gw hI
    ·have e0 : ρ (.tmp 0) = .slice (some ⟨b, off, none⟩) n cap := hs 0
     refine N.yes ?_; exact N.gw hI
    ·refine N.yes ?_
     exact N.gw hI
    ·obtain ⟨_, rfl, zA⟩ := hd 6 41; obtain ⟨_, rfl, DJ⟩ := hd 7 42
     refine N.yes ?_; have q1 := mU.o; exact N.gw hI
    ·obtain ⟨_, rfl, uP⟩ := hd 8 43
     refine N.yes ?_; exact N.Gives.value (v := .agg x.toArray) (w' := wi) (aQ _ _ rfl _ _ (by assumption) (Ga.o wi hI)) (N.bA.same hI rfl)
    ·have e4 : ρ (.tmp 4) = (au w.heap.size) := hs 4
     refine N.yes ?_; have ha := HU.o wi (HB.o.trans (hI.mono HB.o.size)); have y0 := ha.1; have y1 := ha.2.1; have y2 := ha.2.2; exact N.gw hI
    ·obtain ⟨_, rfl, wS⟩ := hd 5 40; obtain ⟨_, rfl, uO⟩ := hd 9 44; obtain ⟨_, rfl, DI⟩ := hd 10 45
     refine N.yes ?_; refine N.Gives.call (f := 109) (args := #[.agg x.toArray, .agg #[iv u.node, iv u.epoch, iv u.seq], (au pf)]) (w' := wi) (by go_simp) ?_; refine (HC.o wi hI).mono ?_; rintro e w'' ⟨rfl, hbb⟩; exact ⟨_, rfl, ⟨rfl, hI.trans (hbb.mono hI.size), fun j u _ _ h => N.tz h⟩⟩
    ·obtain ⟨_, rfl, F4⟩ := hd 11 46
     refine N.yes ?_; exact N.gw hI
    ·obtain ⟨_, rfl, e39⟩ := hd 4 39; obtain ⟨_, rfl, U6⟩ := hd 12 47; exact N.gw hI
    ·obtain ⟨_, rfl, r9⟩ := hd 0 35; exact N.gw hI
    obtain ⟨_, rfl, Jh⟩ := hd 13 48; exact N.gw hI
   intro V wa hV hI
   have sA : V 14 = iv (k : Int) := hV 14 (by decide) rfl; have kq : V 15 = .bool (o == 0) := hV 15 (by decide) rfl; simp only [N.aP, List.foldl_cons, List.foldl_nil, Act.put, List.setIfInBounds_toArray, List.set_cons_succ, List.set_cons_zero, sA, kq]; replace hI : (fun a => Below wr.heap.size wr a) wa := hI; clear hV sA kq; have gG := ak (HB.o.trans (hI.mono HB.o.size)); clear hI
   go_wp2_with fail
   go_returns
   exact ⟨⟨o == 0, by rw [<- HR.o]; rfl⟩, mX.o.trans (gG.o.mono mX.o.size)⟩
  have mU := ak hk
  go_upto_region 8 with (fail)
  refine N.rb 15 [14, 15] (Aq n k) wr (fun V => [(some 35, V 0), (some 36, V 1), (some 37, V 2), (some 38, V 3), (some 39, V 4), (some 40, V 5), (some 41, V 6), (some 42, V 7), (some 43, V 8), (some 44, V 9), (some 45, V 10), (some 46, V 11), (some 47, V 12), (some 48, V 13), (some 6, V 14), (some 7, V 15)]) ?_ ?_
  ·intro i o ho
   have hi : i < 16 := (Array.getElem?_eq_some_iff.1 ho).1; rcases i with _ | _ | _ | _ | _ | _ | _ | _ | _ | _ | _ | _ | _ | _ | _ | _ | i
   rotate_right
   ·omega
   all_goals obtain rfl := Option.some.inj ho
   all_goals intro ρ wi hE hI hs hd
   all_goals try dsimp only at hI
   all_goals (have e9 : ρ (.tmp 9) = iv (k : Int) := hs 9)
   iterate 2 ·exact N.gw hI
   ·have e8 : ρ (.tmp 8) = iv (n : Int) := hs 8; exact N.gw hI
   ·obtain ⟨_, rfl, r8⟩ := hd 1 36; obtain ⟨_, rfl, zi⟩ := hd 2 37; have q1 := mU.o; exact N.gw hI
   ·obtain ⟨_, rfl, e38⟩ := hd 3 38; exact N.gw hI
   iterate 8 ·exact N.no hI
   ·obtain ⟨_, rfl, e39⟩ := hd 4 39; obtain ⟨_, rfl, U6⟩ := hd 12 47; have hc := hE.const; exact N.gw hI
   ·obtain ⟨_, rfl, r9⟩ := hd 0 35; exact N.gw hI
   obtain ⟨_, rfl, Jh⟩ := hd 13 48; exact N.gw hI
  intro V wa hV hI
  have sA : V 14 = iv (k : Int) := hV 14 (by decide) rfl; have kq : V 15 = .bool false := hV 15 (by decide) rfl; simp only [N.aP, List.foldl_cons, List.foldl_nil, Act.put, List.setIfInBounds_toArray, List.set_cons_succ, List.set_cons_zero, sA, kq]; replace hI : (fun a => Below wr.heap.size wr a) wa := hI; clear hV sA kq; have gG := ak (HB.o.trans (hI.mono HB.o.size)); clear hI
  go_wp2_with fail
  go_returns
  exact ⟨⟨false, by rw [<- HR.o]; rfl⟩, mX.o.trans (gG.o.mono mX.o.size)⟩
set_option maxHeartbeats 1000000 in
theorem yR (v : Value) (vs : List (List Value)) (os : List Int) (p : Pr) (y : Lay) (base : Nat) (w : World) (kV : base <= w.heap.size) (hf : Fit 5 vs) (ho : w.ownsRow base 78 5 v vs.length vs.flatten) (hb : os.length = vs.length) (hl : vs.length <= 100000)
  (ht : ∀ k (hk : k < vs.length) (hk' : k < os.length), ∃ (q : Pr) (z : Lay), vs[k] = q.vals z /\ os[k] = ord q.tid p.tid) :
  Calls Tryz.prog 95 #[v, .func (.func 42) #[] #[], .agg (p.vals y).toArray] w fun e w' =>
   ∃ v', e = .returned v' /\ w'.ownsRow base 78 5 v' (vs.take (fC os) ++ p.vals y :: vs.drop (fC os)).length (vs.take (fC os) ++ p.vals y :: vs.drop (fC os)).flatten /\ Only (fun k => some k = v.ownBlock) w w' /\ (v'.ownBlock = v.ownBlock \/ ∃ k, v'.ownBlock = some k /\ w.heap.size <= k) := by
 have hle : fC os <= vs.length := by rw [<- hb]; exact mB os
 obtain ⟨i, hi⟩ := ah (fC os); obtain ⟨wb, hwb⟩ := aj ((w.alloc (.cells #[.func (.func 42) #[] #[]] 92)).alloc (.cells #[iv p.tid.node, iv p.tid.epoch, iv p.tid.seq, .slice y.A p.items.length y.c, .slice y.B p.nodes.length y.d] 78)); have hb1 := av w (.cells #[.func (.func 42) #[] #[]] 92); have hb2 : Below w.heap.size w wb := by rw [hwb]; exact hb1.alloc hb1.size _
 have hfn : wb.cell? ⟨w.heap.size, 0, none⟩ = some (.func (.func 42) #[] #[]) := by
  rw [hwb]; exact ((aB w 92 [.func (.func 42) #[] #[]] _ rfl).later (av _ _)).cell (j := 0) rfl
 have hx : Cells wb (w.heap.size + 1) 78 [iv p.tid.node, iv p.tid.epoch, iv p.tid.seq, .slice y.A p.items.length y.c, .slice y.B p.nodes.length y.d] := by
  rw [hwb]; have h := aB (w.alloc (.cells #[.func (.func 42) #[] #[]] 92)) 78 [iv p.tid.node, iv p.tid.epoch, iv p.tid.seq, .slice y.A p.items.length y.c, .slice y.B p.nodes.length y.d] _ rfl; rw [World.size_alloc] at h; exact h
 obtain ⟨A, cA, hv, hsl, _, _⟩ := f_ ho hf.len; have uT : Hid (∀ wi, Below wb.heap.size wb wi -> Calls Tryz.prog 108 #[.slice A vs.length cA, p.tid.val, .func (.func 109) #[] #[(au w.heap.size)]] wi fun e w' => (∃ z, e = .returned (.tuple #[iv (i : Nat), .bool z])) /\ Below wi.heap.size wi w') := ak fun wi hw => by
  rw [<- hi]; refine Kn A vs os cA p.tid w.heap.size wi (hsl.later (hb2.trans (hw.mono hb2.size))) (fun k hk => hf.len _ (List.getElem_mem hk)) hb hl fun k hk hk' w' hw' => ?_
  obtain ⟨q, z, e1, e2⟩ := ht k hk hk'; rw [e1, e2]; exact Aw q z w.heap.size p.tid w' (((hw.trans (hw'.mono hw.size)).cell (aH hfn)).trans hfn)
 have vN : Hid (∀ wi gx, Below wb.heap.size wb wi -> wb.heap.size <= gx -> wi.heap[gx]? = some (.cells #[iv p.tid.node, iv p.tid.epoch, iv p.tid.seq, .slice y.A p.items.length y.c, .slice y.B p.nodes.length y.d] 78 (0, 0)) -> Calls Tryz.prog 111 #[.slice A vs.length cA, iv (i : Int), .slice (some ⟨gx, 0, none⟩) 1 1] wi fun e w' =>
   ∃ v', e = .returned v' /\ w'.ownsRow base 78 5 v' (vs.take i ++ p.vals y :: vs.drop i).length (vs.take i ++ p.vals y :: vs.drop i).flatten /\ Only (fun k => some k = v.ownBlock) w w' /\ (v'.ownBlock = v.ownBlock \/ ∃ k, v'.ownBlock = some k /\ w.heap.size <= k)) := ak fun wi gx hw hgx hc => by
  have hwi := hb2.trans (hw.mono hb2.size); rw [<- hv]; refine (Io v i vs (p.vals y) gx base wi (Nat.le_trans kV hwi.size) hf rfl (vP p y) (by omega) (aF ho (Only.of_below (S := fun _ => False) hwi) fun _ _ e => e) hc (fun e => ?_) hl).mono ?_
  ·have h1 := (ho.lt gx e).2
   have h2 := hb2.size
   omega
  rintro e w' ⟨v', rfl, k1, k2, k3⟩
  refine ⟨v', rfl, k1, (Only.of_below hwi).trans k2 fun _ _ h => h, ?_⟩; rcases k3 with k3 | k3
  ·exact Or.inl k3
  exact Or.inr ⟨_, k3, hwi.size⟩
 have Jm := ak (fun wi (h : Below wb.heap.size wb wi) => (h.cell (aH hfn)).trans hfn); have HX := ak (fun wi (h : Below wb.heap.size wb wi) => hx.later h); have HN := ak (fun wi => qH p y wi); rw [hi]; obtain ⟨L, hL⟩ := ah (vs.take i ++ p.vals y :: vs.drop i); rw [hL] at vN ⊢; obtain ⟨o, FM⟩ := ah v.ownBlock; rw [FM] at vN ⊢; subst hv; obtain ⟨n, hn⟩ := ah vs.length; rw [hn] at vN uT ⊢; have Vp := ak hle; clear hle hi hL FM hn hb1 hb2 hfn hx hsl ht hb hl hf ho; unfold Pr.vals at HN ⊢; unfold cT.val at HN uT
 go_enter Tryz.func95, Tryz.ntmps95
 go_wp2_with fail
 rw [<- hwb]; clear hwb; refine (HN.o wb).mono ?_; rintro e w2 ⟨rfl, hb2⟩; have bZ := ak hb2; clear hb2
 go_wp2_with fail
 refine (uT.o w2 bZ.o).mono ?_; rintro e w3 ⟨⟨z, rfl⟩, hb3⟩; have mW : Hid (Below wb.heap.size wb w3) := ak (bZ.o.trans (hb3.mono bZ.o.size)); have hcx := HX.o w3 mW.o; obtain ⟨z0, z1, z2, z3, z4⟩ := hcx.q5; have HC : Hid (Below wb.heap.size wb (w3.alloc (.cells #[iv p.tid.node, iv p.tid.epoch, iv p.tid.seq, .slice y.A p.items.length y.c, .slice y.B p.nodes.length y.d] 78)) /\ wb.heap.size <= w3.heap.size /\ (w3.alloc (.cells #[iv p.tid.node, iv p.tid.epoch, iv p.tid.seq, .slice y.A p.items.length y.c, .slice y.B p.nodes.length y.d] 78)).heap[w3.heap.size]? = some (.cells #[iv p.tid.node, iv p.tid.epoch, iv p.tid.seq, .slice y.A p.items.length y.c, .slice y.B p.nodes.length y.d] 78 (0, 0))) :=
  ak ⟨mW.o.trans ((av _ _).mono mW.o.size), mW.o.size, by show (w3.heap.push _)[w3.heap.size]? = _; exact Array.getElem?_push_size⟩
 clear hb3 hcx
 go_wp2_with fail
 refine (vN.o _ _ HC.o.1 HC.o.2.1 HC.o.2.2).mono ?_; rintro e w' ⟨v', rfl, k1, k2, k3⟩; have HK := ak (And.intro k1 (And.intro k2 k3)); clear k1 k2 k3
 go_wp2_with fail
 go_returns
 exact ⟨_, rfl, HK.o.1, HK.o.2.1, HK.o.2.2⟩
def Ao (p : De) (u : cT) : Nat -> Value -> World -> Prop := N.tb [.inl (.func (.func 44) #[] #[]), .inl (.agg #[.int .i64 p.tid.node, .int .i64 p.tid.epoch, .int .i64 p.tid.seq, .bool p.yes]), .inl (.agg #[.int .i64 p.tid.node, .int .i64 p.tid.epoch, .int .i64 p.tid.seq]), .inl (.agg #[.int .i64 u.node, .int .i64 u.epoch, .int .i64 u.seq]), .inl (.int .i64 (ord p.tid u)), .inl (.int .i64 (ord p.tid u))]
set_option maxHeartbeats 1000000 in
theorem EK (p : De) (pf : Nat) (u : cT) (w : World) (hf : w.cell? ⟨pf, 0, none⟩ = some (.func (.func 44) #[] #[])) :
  Calls Tryz.prog 120 #[.agg (p.vals).toArray, u.val, (au pf)] w fun e w' => e = .returned (iv (ord p.tid u)) /\ Below w.heap.size w w' := by
 have HN := ak (fun wi => sN p wi); obtain ⟨wb, hwb⟩ := aj ((w.alloc (.cells #[iv p.tid.node, iv p.tid.epoch, iv p.tid.seq, .bool p.yes] 79)).alloc (.cells #[iv u.node, iv u.epoch, iv u.seq] 47)); have hb1 := av w (.cells #[iv p.tid.node, iv p.tid.epoch, iv p.tid.seq, .bool p.yes] 79); have hb : Below w.heap.size w wb := by rw [hwb]; exact hb1.alloc hb1.size _
 have hu : Cells wb (w.heap.size + 1) 47 [iv u.node, iv u.epoch, iv u.seq] := by
  rw [hwb]; have h := aB (w.alloc (.cells #[iv p.tid.node, iv p.tid.epoch, iv p.tid.seq, .bool p.yes] 79)) 47 [iv u.node, iv u.epoch, iv u.seq] _ rfl; rw [World.size_alloc] at h; exact h
 have HF := ak (fun wi (h : Below wb.heap.size wb wi) => (h.cell (aH ((hb.cell (aH hf)).trans hf))).trans ((hb.cell (aH hf)).trans hf)); have HU := ak (sK hu); have HX := ak (fun wi (h : Below wb.heap.size wb wi) => (show Cells wb w.heap.size 79 [iv p.tid.node, iv p.tid.epoch, iv p.tid.seq, .bool p.yes] by rw [hwb]; exact (aB _ _ _ _ rfl).later (av _ _)).later h)
 have HB := ak hb; unfold De.vals at HN ⊢; unfold cT.val at HN ⊢; clear hf hu hb hb1
 go_enter Tryz.func120, Tryz.ntmps120
 go_wp2_with fail
 rw [<- hwb]; refine N.rb 5 [5] (Ao p u) wb (fun V => [(some 6, V 0), (some 7, V 1), (some 8, V 2), (some 9, V 3), (some 10, V 4), (some 5, V 5)]) ?_ ?_
 ·intro i o ho
  have hi : i < 6 := (Array.getElem?_eq_some_iff.1 ho).1; rcases i with _ | _ | _ | _ | _ | _ | i
  rotate_right
  ·omega
  all_goals obtain rfl := Option.some.inj ho
  all_goals intro ρ wi hE hI hs hd
  all_goals try dsimp only at hI
  ·have e2 : ρ (.tmp 2) = (au pf) := hs 2; have x0 := HF.o wi hI; exact N.gw hI
  ·have e3 : ρ (.tmp 3) = (au w.heap.size) := hs 3; have hcx := HX.o wi hI; obtain ⟨z0, z1, z2, z3⟩ := hcx.q4; exact N.gw hI
  ·obtain ⟨_, rfl, e6⟩ := hd 0 6; obtain ⟨_, rfl, e7⟩ := hd 1 7
   refine N.Gives.call (f := 44) (args := #[.agg #[iv p.tid.node, iv p.tid.epoch, iv p.tid.seq, .bool p.yes]]) (w' := wi) (by go_simp) ?_; refine (HN.o wi).mono ?_; rintro e w'' ⟨rfl, hbb⟩; exact ⟨_, rfl, ⟨rfl, hI.trans (hbb.mono hI.size), fun j u _ _ h => N.tz h⟩⟩
  ·have e4 : ρ (.tmp 4) = (au (w.heap.size + 1)) := hs 4; have ha := HU.o wi hI; have y0 := ha.1; have y1 := ha.2.1; have y2 := ha.2.2; exact N.gw hI
  ·obtain ⟨_, rfl, e8⟩ := hd 2 8; obtain ⟨_, rfl, e9⟩ := hd 3 9; have hf := hE.func
   refine N.Gives.call (f := 110) (args := #[.agg #[iv p.tid.node, iv p.tid.epoch, iv p.tid.seq], .agg #[iv u.node, iv u.epoch, iv u.seq]]) (w' := wi) (by go_simp) ?_; refine (uW p.tid u wi).mono ?_; rintro e w'' ⟨rfl, hbb⟩; exact ⟨_, rfl, ⟨rfl, hI.trans (hbb.mono hI.size), fun j u _ _ h => N.tz h⟩⟩
  obtain ⟨_, rfl, e10⟩ := hd 4 10; exact N.gw hI
 intro V wa hV hI
 have Bg : V 5 = iv (ord p.tid u) := hV 5 (by decide) rfl; simp only [N.aP, List.foldl_cons, List.foldl_nil, Act.put, List.setIfInBounds_toArray, List.set_cons_succ, List.set_cons_zero, Bg]; replace hI : (fun a => Below wb.heap.size wb a) wa := hI; clear hV Bg
 go_wp2_with fail
 go_returns
 exact ⟨rfl, HB.o.trans (hI.mono HB.o.size)⟩
def ED (b off k : Nat) (n cap pf : Nat) (x : List Value) (u : cT) (o : Int) : Nat -> Value -> World -> Prop := N.tb [.inl (.func (.func 120) #[] #[.pointer (some ⟨pf, 0, none⟩)]), .inl (.slice (some ⟨b, off, none⟩) n cap), .inl (.int .i64 (k : Int)), .inl (.pointer (some ⟨b, off + k * 4, none⟩)), .inl (.agg x.toArray), .inl (.agg #[.int .i64 u.node, .int .i64 u.epoch, .int .i64 u.seq]), .inl (.int .i64 o), .inl (.bool (decide (o < 0)))]
def EG (b off k : Nat) (n cap pf : Nat) (x : List Value) (u : cT) (o : Int) : Nat -> Value -> World -> Prop := N.tb [.inl (.int .i64 (k : Int)), .inl (.int .i64 (k : Int)), .inl (.int .i64 (n : Int)), .inl (.bool true), .inl (.bool true), .inl (.func (.func 120) #[] #[.pointer (some ⟨pf, 0, none⟩)]), .inl (.slice (some ⟨b, off, none⟩) n cap), .inl (.int .i64 (k : Int)), .inl (.pointer (some ⟨b, off + k * 4, none⟩)), .inl (.agg x.toArray), .inl (.agg #[.int .i64 u.node, .int .i64 u.epoch, .int .i64 u.seq]), .inl (.int .i64 o), .inl (.bool (o == 0)), .inl (.bool (o == 0)), .inl (.int .i64 (k : Int)), .inl (.bool (o == 0))]
def EF (n k : Nat) : Nat -> Value -> World -> Prop := N.tb [.inl (.int .i64 (k : Int)), .inl (.int .i64 (k : Int)), .inl (.int .i64 (n : Int)), .inl (.bool false), .inl (.bool false), .inl (undef), .inl (undef), .inl (undef), .inl (undef), .inl (undef), .inl (undef), .inl (undef), .inl (undef), .inl (.bool false), .inl (.int .i64 (k : Int)), .inl (.bool false)]
set_option maxHeartbeats 2000000 in
theorem Ua (A : Option Addr) (vs : List (List Value)) (os : List Int) (cap : Nat) (u : cT) (pf : Nat) (w : World) (h : Sl w A 4 vs) (hz : ∀ k (hk : k < vs.length), vs[k].length = 4) (hb : os.length = vs.length) (hl : vs.length <= 100000)
  (ht : ∀ k (hk : k < vs.length) (hk' : k < os.length) w', Below w.heap.size w w' -> Calls Tryz.prog 120 #[.agg vs[k].toArray, u.val, (au pf)] w' fun e w'' => e = .returned (iv os[k]) /\ Below w'.heap.size w' w'') :
  Calls Tryz.prog 119 #[.slice A vs.length cap, u.val, .func (.func 120) #[] #[(au pf)]] w fun e w' => (∃ z, e = .returned (.tuple #[iv (fC os : Nat), .bool z])) /\ Below w.heap.size w w' := by
 obtain ⟨wb, hwb⟩ := aj (w.alloc (.cells #[iv u.node, iv u.epoch, iv u.seq] 47)); have hb0 : Below w.heap.size w wb := by rw [hwb]; exact av _ _
 have hu : Cells wb w.heap.size 47 [iv u.node, iv u.epoch, iv u.seq] := by rw [hwb]; exact aB _ _ _ _ rfl
 have HH := ak (h.later hb0); have HT : Hid (∀ k (hk : k < vs.length) (hk' : k < os.length) w', Below wb.heap.size wb w' -> Calls Tryz.prog 120 #[.agg vs[k].toArray, u.val, (au pf)] w' fun e w'' => e = .returned (iv os[k]) /\ Below w'.heap.size w' w'') := ak fun k hk hk' w' hw => ht k hk hk' w' (hb0.trans (hw.mono hb0.size))
 have HZ := ak hz; have HU := ak (sK hu); have mX := ak hb0; have HG : Hid (w.heap.size < wb.heap.size) := ak hu.lt; obtain ⟨F, hF⟩ := ah (fC os); have HF := ak hF; rw [hF]; obtain ⟨n, hn⟩ := ah vs.length; have HN := ak hn; have kd := ak hb; rw [hn] at hl ⊢; unfold cT.val at HT ⊢; clear h hF hn hb ht hz hb0 hu
 go_enter Tryz.func119, Tryz.ntmps119
 go_wp2_with fail
 rw [<- hwb]
 go_loopw [9, 10] (fun i j wr => ∃ k l m : Nat, k <= l /\ l <= n /\ l - k <= m /\ i = iv (k : Int) /\ j = iv (l : Int) /\ Hid (jd m os k l = F) /\ Hid (Below wb.heap.size wb wr)) (fun i j _ => (intOf j).toNat - (intOf i).toNat)
 case atStart => exact ⟨0, n, n, Nat.zero_le _, Nat.le_refl _, Nat.le_refl _, rfl, rfl, ak (by have h := HF.o; unfold fC at h; rw [kd.o, HN.o] at h; exact h), ak (Below.refl _ _)⟩
 case round =>
  obtain ⟨k, l, m, hkl, UR, hm, rfl, rfl, Gc, HB⟩ := hrel
  by_cases hlt : k < l
  ·obtain ⟨h, hh⟩ := ah ((k + l) / 2)
   have Uj : h < n := by omega
   have hkh : k <= h := by omega
   have hhl : h < l := by omega
   have hlt' : h < vs.length := by have := HN.o; omega
   have hlb : h < os.length := by have := kd.o; omega
   obtain ⟨b, off, hA, bS⟩ := HH.o h hlt'; subst hA; have qV := ak (HZ.o h hlt'); have Ga : Hid (∀ wi, Below wr.heap.size wr wi -> (loadVar 79 ⟨b, off + h * 4, none⟩).run Tryz.prog wi = .ok (.agg vs[h].toArray) wi) := ak fun wi hw => run_loadVar_mid wi b (off + h * 4) 79 vs[h] _ (aM (aM bS HB.o) hw) Tryz.underlying79 rfl (by rw [qV.o]; kernel_rfl)
   have HC : Hid (∀ wi, Below wr.heap.size wr wi -> Calls Tryz.prog 120 #[.agg vs[h].toArray, .agg #[iv u.node, iv u.epoch, iv u.seq], (au pf)] wi fun e w'' => e = .returned (iv os[h]) /\ Below wi.heap.size wi w'') := ak fun wi hw => HT.o h hlt' hlb wi (HB.o.trans (hw.mono HB.o.size))
   have mU := ak Uj; obtain ⟨o, ho⟩ := ah (os[h]); have Vm : Hid ((os[(k + l) / 2]?).getD 0 = o) := ak (by rw [hh, List.getElem?_eq_getElem hlb, ho]; rfl); rw [ho] at HC; obtain ⟨x, hx⟩ := ah (vs[h]); rw [hx] at Ga HC; have Zh : IntKind.i64.wrap ((k : Int) + (l : Int)) = (k : Int) + (l : Int) := by rw [IntKind.wrap_i64]; omega
   clear bS hx ho qV hlt' hlb
   go_upto_region 5 with (fail)
   have GJ : ((k : Int) + (l : Int)) / 2 = (h : Int) := by omega
   simp only [GJ]; refine N.rb 7 [7] (ED b off h n cap pf x u o) wr (fun V => [(some 24, V 0), (some 25, V 1), (some 26, V 2), (some 27, V 3), (some 28, V 4), (some 29, V 5), (some 30, V 6), (some 31, V 7)]) ?_ ?_
   ·intro i o ho
    have hi : i < 8 := (Array.getElem?_eq_some_iff.1 ho).1; rcases i with _ | _ | _ | _ | _ | _ | _ | _ | i
    rotate_right
    ·omega
    all_goals obtain rfl := Option.some.inj ho
    all_goals intro ρ wi hE hI hs hd
    all_goals try dsimp only at hI
    ·have e2 : ρ (.tmp 2) = .func (.func 120) #[] #[(au pf)] := hs 2; exact N.gw hI
    ·have e0 : ρ (.tmp 0) = .slice (some ⟨b, off, none⟩) n cap := hs 0; exact N.gw hI
    ·have e11 : ρ (.tmp 11) = iv (h : Int) := hs 11; exact N.gw hI
    ·obtain ⟨_, rfl, DK⟩ := hd 1 25; obtain ⟨_, rfl, zj⟩ := hd 2 26; have q1 := mU.o; exact N.gw hI
    ·obtain ⟨_, rfl, Bn⟩ := hd 3 27
     exact N.Gives.value (v := .agg x.toArray) (w' := wi) (aQ _ _ rfl _ _ (by assumption) (Ga.o wi hI)) (N.bA.same hI rfl)
    ·have e4 : ρ (.tmp 4) = (au w.heap.size) := hs 4; have ha := HU.o wi (HB.o.trans (hI.mono HB.o.size)); have y0 := ha.1; have y1 := ha.2.1; have y2 := ha.2.2; exact N.gw hI
    ·obtain ⟨_, rfl, DL⟩ := hd 0 24; obtain ⟨_, rfl, Bl⟩ := hd 4 28; obtain ⟨_, rfl, wK⟩ := hd 5 29
     refine N.Gives.call (f := 120) (args := #[.agg x.toArray, .agg #[iv u.node, iv u.epoch, iv u.seq], (au pf)]) (w' := wi) (by go_simp) ?_; refine (HC.o wi hI).mono ?_; rintro e w'' ⟨rfl, hbb⟩; exact ⟨_, rfl, ⟨rfl, hI.trans (hbb.mono hI.size), fun j u _ _ h => N.tz h⟩⟩
    obtain ⟨_, rfl, e30⟩ := hd 6 30; have hc := hE.const; exact N.gw hI
   intro V wa hV hI
   have jr : V 7 = .bool (decide (o < 0)) := hV 7 (by decide) rfl; simp only [N.aP, List.foldl_cons, List.foldl_nil, Act.put, List.setIfInBounds_toArray, List.set_cons_succ, List.set_cons_zero, jr]; replace hI : (fun a => Below wr.heap.size wr a) wa := hI; clear hV jr; have gG := ak (HB.o.trans (hI.mono HB.o.size)); clear hI
   by_cases hneg : o < 0
   ·have HG2 : Hid (jd (m - 1) os (h + 1) l = F) := ak (by
     rw [<- Gc.o, show m = (m - 1) + 1 by omega, xZ (by omega) (by rw [Vm.o]; exact hneg), hh]
     simp)
    go_wp2_with fail
    go_roundw
    case rel => exact ⟨h + 1, l, m - 1, by omega, UR, by omega, by go_num, rfl, HG2, gG⟩
    case measure => simp [intOf]; omega
   have HG2 : Hid (jd (m - 1) os k h = F) := ak (by
    rw [<- Gc.o, show m = (m - 1) + 1 by omega, vp (by omega) (by rw [Vm.o]; exact hneg), hh]
    simp)
   go_wp2_with fail
   go_roundw
   case rel => exact ⟨k, h, m - 1, by omega, by omega, by omega, rfl, rfl, HG2, gG⟩
   case measure => simp [intOf]; omega
  obtain rfl : k = l := by omega
  have HR : Hid (k = F) := ak (by rw [<- Gc.o, yg]); clear Gc hm
  by_cases hk : k < n
  ·obtain ⟨h, hh⟩ := ah k
   subst hh; have hlt' : k < vs.length := by have := HN.o; omega
   have hlb : k < os.length := by have := kd.o; omega
   obtain ⟨b, off, hA, bS⟩ := HH.o k hlt'; subst hA; have qV := ak (HZ.o k hlt'); have Ga : Hid (∀ wi, Below wr.heap.size wr wi -> (loadVar 79 ⟨b, off + k * 4, none⟩).run Tryz.prog wi = .ok (.agg vs[k].toArray) wi) := ak fun wi hw => run_loadVar_mid wi b (off + k * 4) 79 vs[k] _ (aM (aM bS HB.o) hw) Tryz.underlying79 rfl (by rw [qV.o]; kernel_rfl)
   have HC : Hid (∀ wi, Below wr.heap.size wr wi -> Calls Tryz.prog 120 #[.agg vs[k].toArray, .agg #[iv u.node, iv u.epoch, iv u.seq], (au pf)] wi fun e w'' => e = .returned (iv os[k]) /\ Below wi.heap.size wi w'') := ak fun wi hw => HT.o k hlt' hlb wi (HB.o.trans (hw.mono HB.o.size))
   have mU := ak hk; obtain ⟨o, ho⟩ := ah (os[k]); rw [ho] at HC; obtain ⟨x, hx⟩ := ah (vs[k]); rw [hx] at Ga HC; clear bS hx ho qV hlt' hlb
   go_upto_region 8 with (fail)
   refine N.rb 15 [14, 15] (EG b off k n cap pf x u o) wr (fun V => [(some 35, V 0), (some 36, V 1), (some 37, V 2), (some 38, V 3), (some 39, V 4), (some 40, V 5), (some 41, V 6), (some 42, V 7), (some 43, V 8), (some 44, V 9), (some 45, V 10), (some 46, V 11), (some 47, V 12), (some 48, V 13), (some 6, V 14), (some 7, V 15)]) ?_ ?_
   ·intro i o ho
    have hi : i < 16 := (Array.getElem?_eq_some_iff.1 ho).1; rcases i with _ | _ | _ | _ | _ | _ | _ | _ | _ | _ | _ | _ | _ | _ | _ | _ | i
    rotate_right
    ·omega
    all_goals obtain rfl := Option.some.inj ho
    all_goals intro ρ wi hE hI hs hd
    all_goals try dsimp only at hI
    all_goals (have e9 : ρ (.tmp 9) = iv (k : Int) := hs 9; have hc := hE.const)
    iterate 2 ·exact N.gw hI
    ·have e8 : ρ (.tmp 8) = iv (n : Int) := hs 8; exact N.gw hI
    ·obtain ⟨_, rfl, r8⟩ := hd 1 36; obtain ⟨_, rfl, zi⟩ := hd 2 37; have q1 := mU.o; exact N.gw hI
    ·obtain ⟨_, rfl, e38⟩ := hd 3 38; exact N.gw hI
    ·have e2 : ρ (.tmp 2) = .func (.func 120) #[] #[(au pf)] := hs 2
     refine N.yes ?_; exact N.gw hI
    ·have e0 : ρ (.tmp 0) = .slice (some ⟨b, off, none⟩) n cap := hs 0
     refine N.yes ?_; exact N.gw hI
    ·refine N.yes ?_
     exact N.gw hI
    ·obtain ⟨_, rfl, zA⟩ := hd 6 41; obtain ⟨_, rfl, DJ⟩ := hd 7 42
     refine N.yes ?_; have q1 := mU.o; exact N.gw hI
    ·obtain ⟨_, rfl, uP⟩ := hd 8 43
     refine N.yes ?_; exact N.Gives.value (v := .agg x.toArray) (w' := wi) (aQ _ _ rfl _ _ (by assumption) (Ga.o wi hI)) (N.bA.same hI rfl)
    ·have e4 : ρ (.tmp 4) = (au w.heap.size) := hs 4
     refine N.yes ?_; have ha := HU.o wi (HB.o.trans (hI.mono HB.o.size)); have y0 := ha.1; have y1 := ha.2.1; have y2 := ha.2.2; exact N.gw hI
    ·obtain ⟨_, rfl, wS⟩ := hd 5 40; obtain ⟨_, rfl, uO⟩ := hd 9 44; obtain ⟨_, rfl, DI⟩ := hd 10 45
     refine N.yes ?_; refine N.Gives.call (f := 120) (args := #[.agg x.toArray, .agg #[iv u.node, iv u.epoch, iv u.seq], (au pf)]) (w' := wi) (by go_simp) ?_; refine (HC.o wi hI).mono ?_; rintro e w'' ⟨rfl, hbb⟩; exact ⟨_, rfl, ⟨rfl, hI.trans (hbb.mono hI.size), fun j u _ _ h => N.tz h⟩⟩
    ·obtain ⟨_, rfl, F4⟩ := hd 11 46
     refine N.yes ?_; exact N.gw hI
    ·obtain ⟨_, rfl, e39⟩ := hd 4 39; obtain ⟨_, rfl, U6⟩ := hd 12 47; exact N.gw hI
    ·obtain ⟨_, rfl, r9⟩ := hd 0 35; exact N.gw hI
    obtain ⟨_, rfl, Jh⟩ := hd 13 48; exact N.gw hI
   intro V wa hV hI
   have sA : V 14 = iv (k : Int) := hV 14 (by decide) rfl; have kq : V 15 = .bool (o == 0) := hV 15 (by decide) rfl; simp only [N.aP, List.foldl_cons, List.foldl_nil, Act.put, List.setIfInBounds_toArray, List.set_cons_succ, List.set_cons_zero, sA, kq]; replace hI : (fun a => Below wr.heap.size wr a) wa := hI; clear hV sA kq; have gG := ak (HB.o.trans (hI.mono HB.o.size)); clear hI
   go_wp2_with fail
   go_returns
   exact ⟨⟨o == 0, by rw [<- HR.o]; rfl⟩, mX.o.trans (gG.o.mono mX.o.size)⟩
  have mU := ak hk
  go_upto_region 8 with (fail)
  refine N.rb 15 [14, 15] (EF n k) wr (fun V => [(some 35, V 0), (some 36, V 1), (some 37, V 2), (some 38, V 3), (some 39, V 4), (some 40, V 5), (some 41, V 6), (some 42, V 7), (some 43, V 8), (some 44, V 9), (some 45, V 10), (some 46, V 11), (some 47, V 12), (some 48, V 13), (some 6, V 14), (some 7, V 15)]) ?_ ?_
  ·intro i o ho
   have hi : i < 16 := (Array.getElem?_eq_some_iff.1 ho).1; rcases i with _ | _ | _ | _ | _ | _ | _ | _ | _ | _ | _ | _ | _ | _ | _ | _ | i
   rotate_right
   ·omega
   all_goals obtain rfl := Option.some.inj ho
   all_goals intro ρ wi hE hI hs hd
   all_goals try dsimp only at hI
   all_goals (have e9 : ρ (.tmp 9) = iv (k : Int) := hs 9)
   iterate 2 ·exact N.gw hI
   ·have e8 : ρ (.tmp 8) = iv (n : Int) := hs 8; exact N.gw hI
   ·obtain ⟨_, rfl, r8⟩ := hd 1 36; obtain ⟨_, rfl, zi⟩ := hd 2 37; have q1 := mU.o; exact N.gw hI
   ·obtain ⟨_, rfl, e38⟩ := hd 3 38; exact N.gw hI
   iterate 8 ·exact N.no hI
   ·obtain ⟨_, rfl, e39⟩ := hd 4 39; obtain ⟨_, rfl, U6⟩ := hd 12 47; have hc := hE.const; exact N.gw hI
   ·obtain ⟨_, rfl, r9⟩ := hd 0 35; exact N.gw hI
   obtain ⟨_, rfl, Jh⟩ := hd 13 48; exact N.gw hI
  intro V wa hV hI
  have sA : V 14 = iv (k : Int) := hV 14 (by decide) rfl; have kq : V 15 = .bool false := hV 15 (by decide) rfl; simp only [N.aP, List.foldl_cons, List.foldl_nil, Act.put, List.setIfInBounds_toArray, List.set_cons_succ, List.set_cons_zero, sA, kq]; replace hI : (fun a => Below wr.heap.size wr a) wa := hI; clear hV sA kq; have gG := ak (HB.o.trans (hI.mono HB.o.size)); clear hI
  go_wp2_with fail
  go_returns
  exact ⟨⟨false, by rw [<- HR.o]; rfl⟩, mX.o.trans (gG.o.mono mX.o.size)⟩
set_option maxHeartbeats 1000000 in
theorem Av (v : Value) (vs : List (List Value)) (os : List Int) (p : De) (base : Nat) (w : World) (kV : base <= w.heap.size) (hf : Fit 4 vs) (ho : w.ownsRow base 79 4 v vs.length vs.flatten) (hb : os.length = vs.length) (hl : vs.length <= 100000)
  (ht : ∀ k (hk : k < vs.length) (hk' : k < os.length), ∃ q : De, vs[k] = q.vals /\ os[k] = ord q.tid p.tid) :
  Calls Tryz.prog 113 #[v, .func (.func 44) #[] #[], .agg (p.vals).toArray] w fun e w' =>
   ∃ v', e = .returned v' /\ w'.ownsRow base 79 4 v' (vs.take (fC os) ++ p.vals :: vs.drop (fC os)).length (vs.take (fC os) ++ p.vals :: vs.drop (fC os)).flatten /\ Only (fun k => some k = v.ownBlock) w w' /\ (v'.ownBlock = v.ownBlock \/ ∃ k, v'.ownBlock = some k /\ w.heap.size <= k) := by
 have hle : fC os <= vs.length := by rw [<- hb]; exact mB os
 obtain ⟨i, hi⟩ := ah (fC os); obtain ⟨wb, hwb⟩ := aj ((w.alloc (.cells #[.func (.func 44) #[] #[]] 95)).alloc (.cells #[iv p.tid.node, iv p.tid.epoch, iv p.tid.seq, .bool p.yes] 79)); have hb1 := av w (.cells #[.func (.func 44) #[] #[]] 95); have hb2 : Below w.heap.size w wb := by rw [hwb]; exact hb1.alloc hb1.size _
 have hfn : wb.cell? ⟨w.heap.size, 0, none⟩ = some (.func (.func 44) #[] #[]) := by
  rw [hwb]; exact ((aB w 95 [.func (.func 44) #[] #[]] _ rfl).later (av _ _)).cell (j := 0) rfl
 have hx : Cells wb (w.heap.size + 1) 79 [iv p.tid.node, iv p.tid.epoch, iv p.tid.seq, .bool p.yes] := by
  rw [hwb]; have h := aB (w.alloc (.cells #[.func (.func 44) #[] #[]] 95)) 79 [iv p.tid.node, iv p.tid.epoch, iv p.tid.seq, .bool p.yes] _ rfl; rw [World.size_alloc] at h; exact h
 obtain ⟨A, cA, hv, hsl, _, _⟩ := f_ ho hf.len; have uT : Hid (∀ wi, Below wb.heap.size wb wi -> Calls Tryz.prog 119 #[.slice A vs.length cA, p.tid.val, .func (.func 120) #[] #[(au w.heap.size)]] wi fun e w' => (∃ z, e = .returned (.tuple #[iv (i : Nat), .bool z])) /\ Below wi.heap.size wi w') := ak fun wi hw => by
  rw [<- hi]; refine Ua A vs os cA p.tid w.heap.size wi (hsl.later (hb2.trans (hw.mono hb2.size))) (fun k hk => hf.len _ (List.getElem_mem hk)) hb hl fun k hk hk' w' hw' => ?_
  obtain ⟨q, e1, e2⟩ := ht k hk hk'; rw [e1, e2]; exact EK q w.heap.size p.tid w' (((hw.trans (hw'.mono hw.size)).cell (aH hfn)).trans hfn)
 have vN : Hid (∀ wi gx, Below wb.heap.size wb wi -> wb.heap.size <= gx -> wi.heap[gx]? = some (.cells #[iv p.tid.node, iv p.tid.epoch, iv p.tid.seq, .bool p.yes] 79 (0, 0)) -> Calls Tryz.prog 121 #[.slice A vs.length cA, iv (i : Int), .slice (some ⟨gx, 0, none⟩) 1 1] wi fun e w' =>
   ∃ v', e = .returned v' /\ w'.ownsRow base 79 4 v' (vs.take i ++ p.vals :: vs.drop i).length (vs.take i ++ p.vals :: vs.drop i).flatten /\ Only (fun k => some k = v.ownBlock) w w' /\ (v'.ownBlock = v.ownBlock \/ ∃ k, v'.ownBlock = some k /\ w.heap.size <= k)) := ak fun wi gx hw hgx hc => by
  have hwi := hb2.trans (hw.mono hb2.size); rw [<- hv]; refine (Kf v i vs (p.vals) gx base wi (Nat.le_trans kV hwi.size) hf rfl (GX p) (by omega) (aF ho (Only.of_below (S := fun _ => False) hwi) fun _ _ e => e) hc (fun e => ?_) hl).mono ?_
  ·have h1 := (ho.lt gx e).2
   have h2 := hb2.size
   omega
  rintro e w' ⟨v', rfl, k1, k2, k3⟩
  refine ⟨v', rfl, k1, (Only.of_below hwi).trans k2 fun _ _ h => h, ?_⟩; rcases k3 with k3 | k3
  ·exact Or.inl k3
  exact Or.inr ⟨_, k3, hwi.size⟩
 have Jm := ak (fun wi (h : Below wb.heap.size wb wi) => (h.cell (aH hfn)).trans hfn); have HX := ak (fun wi (h : Below wb.heap.size wb wi) => hx.later h); have HN := ak (fun wi => sN p wi); rw [hi]; obtain ⟨L, hL⟩ := ah (vs.take i ++ p.vals :: vs.drop i); rw [hL] at vN ⊢; obtain ⟨o, FM⟩ := ah v.ownBlock; rw [FM] at vN ⊢; subst hv; obtain ⟨n, hn⟩ := ah vs.length; rw [hn] at vN uT ⊢; have Vp := ak hle; clear hle hi hL FM hn hb1 hb2 hfn hx hsl ht hb hl hf ho; unfold De.vals at HN ⊢; unfold cT.val at HN uT
 go_enter Tryz.func113, Tryz.ntmps113
 go_wp2_with fail
 rw [<- hwb]; clear hwb; refine (HN.o wb).mono ?_; rintro e w2 ⟨rfl, hb2⟩; have bZ := ak hb2; clear hb2
 go_wp2_with fail
 refine (uT.o w2 bZ.o).mono ?_; rintro e w3 ⟨⟨z, rfl⟩, hb3⟩; have mW : Hid (Below wb.heap.size wb w3) := ak (bZ.o.trans (hb3.mono bZ.o.size)); have hcx := HX.o w3 mW.o; obtain ⟨z0, z1, z2, z3⟩ := hcx.q4; have HC : Hid (Below wb.heap.size wb (w3.alloc (.cells #[iv p.tid.node, iv p.tid.epoch, iv p.tid.seq, .bool p.yes] 79)) /\ wb.heap.size <= w3.heap.size /\ (w3.alloc (.cells #[iv p.tid.node, iv p.tid.epoch, iv p.tid.seq, .bool p.yes] 79)).heap[w3.heap.size]? = some (.cells #[iv p.tid.node, iv p.tid.epoch, iv p.tid.seq, .bool p.yes] 79 (0, 0))) :=
  ak ⟨mW.o.trans ((av _ _).mono mW.o.size), mW.o.size, by show (w3.heap.push _)[w3.heap.size]? = _; exact Array.getElem?_push_size⟩
 clear hb3 hcx
 go_wp2_with fail
 refine (vN.o _ _ HC.o.1 HC.o.2.1 HC.o.2.2).mono ?_; rintro e w' ⟨v', rfl, k1, k2, k3⟩; have HK := ak (And.intro k1 (And.intro k2 k3)); clear k1 k2 k3
 go_wp2_with fail
 go_returns
 exact ⟨_, rfl, HK.o.1, HK.o.2.1, HK.o.2.2⟩
