/- Part 23 of the proof. Conditions: none. -/
import Derived.Test.YtdkchpiinelmiaaGreatZ22
namespace Go.Proofs.YtdkchpiinelmiaaGreat.Led
set_option maxRecDepth 100000
open Go.RowKit Go.Deep Mem fN Rec
theorem tL (s : St) (x : It) : (aX s x).places.length = s.places.length /\ (aX s x).ay = s.ay /\ (aX s x).dec = s.dec /\ (aX s x).com = s.com /\ (aX s x).node = s.node /\ (aX s x).nodes = s.nodes /\ (aX s x).cells = s.cells /\ (aX s x).epoch = s.epoch := by
 unfold aX bJ
 split
 ·exact ⟨by simp, rfl, rfl, rfl, rfl, rfl, rfl, rfl⟩
 exact ⟨rfl, rfl, rfl, rfl, rfl, rfl, rfl, rfl⟩
theorem iJ : ∀ (l : List It) (s : St), (aO s l).places.length = s.places.length /\ (aO s l).ay = s.ay /\ (aO s l).dec = s.dec /\ (aO s l).com = s.com /\ (aO s l).node = s.node /\ (aO s l).nodes = s.nodes /\ (aO s l).cells = s.cells /\ (aO s l).epoch = s.epoch
 | [], _ => ⟨rfl, rfl, rfl, rfl, rfl, rfl, rfl, rfl⟩
 | x :: l, s => by
  obtain ⟨a1, a2, a3, a4, a5, a6, a7, a8⟩ := tL s x; obtain ⟨b1, b2, b3, b4, b5, b6, b7, b8⟩ := iJ l (aX s x); exact ⟨b1.trans a1, b2.trans a2, b3.trans a3, b4.trans a4, b5.trans a5, b6.trans a6, b7.trans a7, b8.trans a8⟩
theorem Small.written {s : St} (h : Small s) (l : List It) : Small (aO s l) := by
 obtain ⟨b1, b2, b3, b4, _⟩ := iJ l s; exact ⟨by rw [b1]; exact h.places, by rw [b2]; exact h.ay, by rw [b3]; exact h.dec, by rw [b4]; exact h.com, by rw [b2]; exact h.pin, by rw [b4]; exact h.cin⟩
theorem BI {α : Type} {l : List α} {k : Nat} {x : α} (h : x ∈ cut l k) : x ∈ l := by
 unfold cut at h; rcases List.mem_append.1 h with h | h
 ·exact List.mem_of_mem_take h
 exact List.mem_of_mem_drop h
theorem GY {α : Type} (l : List α) (k : Nat) : (cut l k).length <= l.length := by unfold cut; simp; omega
theorem Small.cut {s : St} (h : Small s) (k : Nat) : Small { s with ay := cut s.ay k } := ⟨h.places, Nat.le_trans (GY _ _) h.ay, h.dec, h.com, fun p hp => h.pin p (BI hp), h.cin⟩
def bV (s : St) (k : Nat) : List It := ((s.ay[k]?).map Pr.items).getD []
def cK (s : St) (r : Rc) : St × Int := if bQ s r.tid < 0 then dH s r else (eX { (if r.yes = true then aO s (bV s (bQ s r.tid).toNat) else s) with ay := cut (if r.yes = true then aO s (bV s (bQ s r.tid).toNat) else s).ay (bQ s r.tid).toNat } r, 0)
def Ig (s0 : St) (y : Sy) (r : Rc) (b : Nat) (g : Nat) : Nat -> Value -> World -> Prop := N.tb [.inl (.pointer (some ⟨b, 0, none⟩)), .inl (.pointer (some ⟨b, 0, none⟩)), .inl (s0.val y), .inl (.pointer (some ⟨g, 1, none⟩)), .inl (.agg #[.int .i64 r.tid.node, .int .i64 r.tid.epoch, .int .i64 r.tid.seq]), .inl (.int .i64 (bQ s0 r.tid)), .inl (.int .i64 (bQ s0 r.tid))]
set_option maxHeartbeats 4000000 in
theorem AW (s0 : St) (y : Sy) (r : Rc) (z : Lay) (base b : Nat) (w : World) (ho : Own base w b s0 y) (hh : Fr (fun j => iw b y j) w r.items r.nodes z) (hs : Small s0) (hr : r.items.length <= 1000 /\ r.nodes.length <= 1000) :
  Calls Tryz.prog 59 #[(au b), r.val z] w fun e w' => e = .returned (iv (cK s0 r).2) /\ Step base b s0 y w (cK s0 r).1 w' := by
 obtain ⟨wb, hwb⟩ := aj (w.alloc (.cells #[iv r.kind, iv r.tid.node, iv r.tid.epoch, iv r.tid.seq, .slice z.A r.items.length z.c, .slice z.B r.nodes.length z.d, iv r.node, iv r.count, iv r.num, iv r.cell, iv r.status, iv r.hop, iv r.version, iv r.value, .bool r.yes] 51)); have hb : Below w.heap.size w wb := by rw [hwb]; exact av _ _
 have bG := ak (ho.later hb); have bh : Hid (Cells wb w.heap.size 51 (r.vals z)) := ak (by rw [hwb]; exact aB _ _ _ _ rfl); have bI := ak (hh.later hb); have bH := ak hb; have dU := ak hs; have dP := ak hr; have Vh : Hid (∀ k, iw b y k -> k < w.heap.size) := ak fun k e => (ho.rT e).2
 have hlo : base <= w.heap.size := Nat.le_trans ho.low (Nat.le_of_lt ho.br.lt); have F9 := ak hlo; clear hlo; obtain ⟨F, hF⟩ := ah (cK s0 r); have HF := ak hF.symm; rw [hF]; unfold Rc.val; clear ho hh hs hr hb hF
 go_enter Tryz.func59, Tryz.ntmps59
 go_wp2_with fail
 rw [<- hwb]; clear hwb; refine N.rb 6 [6] (Ig s0 y r b w.heap.size) wb (fun V => [(some 6, V 0), (some 7, V 1), (some 8, V 2), (some 9, V 3), (some 10, V 4), (some 11, V 5), (some 5, V 6)]) ?_ ?_
 ·intro i o ho
  have hi : i < 7 := (Array.getElem?_eq_some_iff.1 ho).1; rcases i with _ | _ | _ | _ | _ | _ | _ | i
  rotate_right
  ·omega
  all_goals obtain rfl := Option.some.inj ho
  all_goals intro ρ wi hE hI hs hd
  all_goals try dsimp only at hI
  ·have e0 : ρ (.tmp 0) = (au b) := hs 0; exact N.gw hI
  ·obtain ⟨_, rfl, e6⟩ := hd 0 6; exact N.gw hI
  ·obtain ⟨_, rfl, e7⟩ := hd 1 7
   exact N.Gives.value (v := s0.val y) (w' := wi) (aQ _ _ rfl _ _ (by assumption) (aS (bG.o.later hI))) (N.bA.same hI rfl)
  ·have e3 : ρ (.tmp 3) = (au w.heap.size) := hs 3; exact N.gw hI
  ·obtain ⟨_, rfl, e9⟩ := hd 3 9; have x0 := (bh.o.later hI).cell (j := 1) rfl; have x1 := (bh.o.later hI).cell (j := 2) rfl; have x2 := (bh.o.later hI).cell (j := 3) rfl; exact N.gw hI
  ·obtain ⟨_, rfl, e8⟩ := hd 2 8; obtain ⟨_, rfl, e10⟩ := hd 4 10; have hf := hE.func
   refine N.Gives.call (f := 19) (args := #[s0.val y, .agg #[iv r.tid.node, iv r.tid.epoch, iv r.tid.seq]]) (w' := wi) (by go_simp) ?_; refine (qT s0 y r.tid wi (bG.o.later hI).sees (Nat.le_trans dU.o.ay (by decide))).mono ?_; rintro e w'' ⟨rfl, hbb⟩; exact ⟨_, rfl, ⟨rfl, hI.trans (hbb.mono hI.size), fun j u _ _ h => N.tz h⟩⟩
  obtain ⟨_, rfl, e11⟩ := hd 5 11; exact N.gw hI
 intro V wc hV hI
 have qU : V 6 = iv (bQ s0 r.tid) := hV 6 (by decide) rfl; simp only [N.aP, List.foldl_cons, List.foldl_nil, Act.put, List.setIfInBounds_toArray, List.set_cons_succ, List.set_cons_zero, qU]; replace hI : (fun a => Below wb.heap.size wb a) wc := hI; clear hV qU; have aR := ak (bG.o.later hI); have bO := ak (bh.o.later hI); have cB := ak (bI.o.later hI); have bB := ak (bH.o.trans (hI.mono bH.o.size)); clear hI; have uT : Hid (base <= wc.heap.size) := ak (Nat.le_trans F9.o bB.o.size)
 by_cases hneg : bQ s0 r.tid < 0
 ·have bf : Hid (F = dH s0 r) := ak (by rw [HF.o]; exact if_pos hneg)
  have hx := bO.o; unfold Rc.vals at hx; obtain ⟨x0, x1, x2, x3, x4, x5, x6, x7, x8, x9, x10, eW, eV, eU, dZ⟩ := hx.iZ; clear hx
  go_wp2_with fail
  clear x0 x1 x2 x3 x4 x5 x6 x7 x8 x9 x10 eW eV eU dZ; refine (Ad s0 y r z base b wc aR.o cB.o.two dU.o dP.o).mono ?_; rintro e w9 ⟨rfl, hst⟩; have HN := ak hst; clear hst
  go_wp2_with fail
  go_returns
  exact ⟨aL (by rw [bf.o]), by rw [bf.o]; exact Step.before bB.o HN.o⟩
 obtain ⟨k, hk, hkl, ht⟩ := mO hneg
 clear ht; have zU := ak hneg; obtain ⟨qb, hQ, hcap, hmax, hk', hcell⟩ := aR.o.TN hkl; have F8 := ak (And.intro hQ (And.intro hkl (And.intro hcap dU.o.ay))); have HK := ak hk; have Ww := ak hmax; simp only [hk]; clear hk hneg; have hx := bO.o; unfold Rc.vals at hx; obtain ⟨x0, x1, x2, x3, x4, x5, x6, x7, x8, x9, x10, eW, eV, eU, dZ⟩ := hx.iZ; clear hx
 cases hy : r.yes with
 | true =>
  have HY := ak hy; rw [hy] at dZ; have hq := aR.o.br; unfold St.vals at hq; have q5 := hq.cell (j := 5) rfl; rw [hQ] at q5; obtain ⟨items, hit⟩ := ah (s0.ay[k].items); obtain ⟨lay, D6⟩ := ah (y.ps[k]); have eY := ak (aR.o.lists.pin k hkl hk'); have Gb : Hid (items.length <= 100000) := ak (by rw [<- hit]; exact (dU.o.pin _ (List.getElem_mem hkl)).1); have HPI : Hid (bV s0 k = items) := ak (by unfold bV; rw [List.getElem?_eq_getElem hkl]; exact hit); rw [hit, D6] at hcell eY; clear hq hit D6 hy hk' hQ
  go_wp2_with fail
  clear q5 x0 x1 x2 x3 x4 x5 x6 x7 x8 x9 x10 eW eV eU dZ hcell; refine (Ee s0 y base b lay.A items lay.c wc aR.o (fun w' ho => (eY.o w' (ho.mono fun _ _ e => Or.inr (Or.inl e))).1) Gb.o).mono ?_; rintro e wd ⟨rfl, hO, hN⟩; have W6 := ak hO; obtain ⟨s, hs⟩ := ah (aO s0 items); have hkp := iJ items s0; have hsm := dU.o.written items; rw [hs] at hO hkp hsm; have cu := ak hO; have Gw := ak hsm; have hN' : Only (iw b y) wc wd := hN.mono fun _ _ e => Or.inr (Or.inl e)
  have Wv := ak hN'; have jR := ak (cB.o.next hN' fun _ e => Or.inl e); have fT := ak (aJ bO.o hN' fun e => by have := Vh.o _ e; omega)
  have HQ : Hid (y.Q = some ⟨qb, 0, none⟩ /\ k < s.ay.length /\ s.ay.length <= y.q /\ s.ay.length <= 100000) := ak (by rw [hkp.2.1]; exact F8.o); have tW : Hid (s.ay.length <= 100000 /\ y.q <= 9223372036854775807 /\ k <= 100000) := ak ⟨HQ.o.2.2.2, by have := Ww.o; unfold maxLen at this; omega, by have := HQ.o.2.1; have := HQ.o.2.2.2; omega⟩
  have uT : Hid (base <= wd.heap.size) := ak (Nat.le_trans uT.o hN'.size); have bf : Hid (F = (eX { s with ay := cut s.ay k } r, 0)) := ak (by
   rw [HF.o]; unfold cK; rw [if_neg (by have := zU.o; omega), HK.o, Int.toNat_natCast, HPI.o, if_pos HY.o, hs])
  clear hO hN hN' hs hkp hsm W6 hcap hmax eY hkl
  by_cases dL : y.q = k + 1
  ·have zw := ak dL
   clear dL; have HI : Hid (∀ V : Nat -> Value, cond false (Step base b s y wd { s with ay := cut s.ay k } wd.drew) (cond false (fX base b y (cut s.ay k) (cut y.ps k) wd (V 15) wd.drew) (Below wd.heap.size wd wd.drew /\ (false = true -> ∃ g2, (V 14) = .slice (some ⟨g2, 0, none⟩) 2 2 /\ Cells wd.drew g2 28 [.slice (some ⟨qb, 0, none⟩) k y.q, .slice (some ⟨qb, 0, none⟩) (s.ay.length - (k + 1)) (y.q - (k + 1))])))) := ak fun V => ⟨(Below.refl _ _).drew, fun e => (by cases e)⟩
   go_upto_region 6 with (fail)
   refine N.bk (by kernel_rfl) (fun i => ([some ((au b)), some ((au b)), some ((au b)), some (.pointer (some ⟨b, 5, none⟩)), some (.slice (some ⟨qb, 0, none⟩) s.ay.length y.q), some (iv (k : Int)), some (.slice (some ⟨qb, 0, none⟩) k y.q), some ((au b)), some ((au b)), some (.pointer (some ⟨b, 5, none⟩)), some (.slice (some ⟨qb, 0, none⟩) s.ay.length y.q), some (iv (k : Int)), some (iv ((k : Int) + 1)), some (.slice (some ⟨qb, 0, none⟩) (s.ay.length - (k + 1)) (y.q - (k + 1))), none, none, some ((au b)), some (.pointer (some ⟨b, 5, none⟩)), none] : List (Option Value)).getD i none) (fun D V W => cond (D 18) (Step base b s y wd { s with ay := cut s.ay k } W) (cond (D 15) (fX base b y (cut s.ay k) (cut y.ps k) wd (V 15) W) (Below wd.heap.size wd W /\ ((D 14) = true -> ∃ g2, (V 14) = .slice (some ⟨g2, 0, none⟩) 2 2 /\ Cells W g2 28 [.slice (some ⟨qb, 0, none⟩) k y.q, .slice (some ⟨qb, 0, none⟩) (s.ay.length - (k + 1)) (y.q - (k + 1))])))) (fun V => [(some 29, V 0), (some 30, V 1), (some 31, V 2), (some 32, V 3), (some 33, V 4), (some 34, V 5), (some 35, V 6), (some 36, V 7), (some 37, V 8), (some 38, V 9), (some 39, V 10), (some 40, V 11), (some 41, V 12), (some 42, V 13), (some 43, V 14), (some 44, V 15), (some 45, V 16), (some 46, V 17), (none, V 18)]) (by kernel_rfl) (by kernel_rfl) (fun V => rfl) ?_ ?_ ?_
   ·intro V
    exact HI.o V
   ·intro i o ho
    have hi : i < 19 := (Array.getElem?_eq_some_iff.1 ho).1; rcases i with _ | _ | _ | _ | _ | _ | _ | _ | _ | _ | _ | _ | _ | _ | _ | _ | _ | _ | _ | i
    rotate_right
    ·omega
    all_goals obtain rfl := Option.some.inj ho
    all_goals intro D V ρ wi hE hI cP hT hF hs hd hk
    all_goals (have e0 : ρ (.tmp 0) = (au b) := hs 0; have e5 : ρ (.tmp 5) = iv (k : Int) := hs 5)
    ·clear hT hF hk
     exact N.gi _ ⟨fun _ => N.oi, hI⟩
    ·clear hT hF hk
     exact N.gi _ ⟨fun _ => N.oi, hI⟩
    ·have e30 := (hd 1 30).trans (hk 1 _ rfl); clear hT hF hk
     exact N.gi _ ⟨fun _ => N.oi, hI⟩
    ·have uQ := (hd 2 31).trans (hk 2 _ rfl); clear hT hF hk
     exact N.gi _ ⟨fun _ => N.oi, hI⟩
    ·have zB := (hd 3 32).trans (hk 3 _ rfl); have bR : D 15 = false := hF 3 15; have dh : D 18 = false := hF 1 18; clear hT hF; have gX := hI
     simp only [bR, dh, cond_false] at hI; have x0 := (cu.o.later hI.1).br.cell (j := 5) rfl; rw [HQ.o.1] at x0; exact N.gi _ ⟨fun _ => N.oi, gX⟩
    ·clear hT hF hk
     exact N.gi _ ⟨fun _ => N.oi, hI⟩
    ·have Bk := (hd 4 33).trans (hk 4 _ rfl); have Bj := (hd 5 34).trans (hk 5 _ rfl); clear hT hF hk; have h1 := HQ.o.2.1; have h2 := HQ.o.2.2.1
     have h9 : k <= y.q := by omega
     have h8 := tW.o.2.1; exact N.gi _ ⟨fun _ => N.oi, hI⟩
    ·clear hT hF hk
     exact N.gi _ ⟨fun _ => N.oi, hI⟩
    ·have r8 := (hd 7 36).trans (hk 7 _ rfl); clear hT hF hk
     exact N.gi _ ⟨fun _ => N.oi, hI⟩
    ·have zi := (hd 8 37).trans (hk 8 _ rfl); clear hT hF hk
     exact N.gi _ ⟨fun _ => N.oi, hI⟩
    ·have e38 := (hd 9 38).trans (hk 9 _ rfl); have bR : D 15 = false := hF 3 15; have dh : D 18 = false := hF 1 18; clear hT hF; have gX := hI
     simp only [bR, dh, cond_false] at hI; have x0 := (cu.o.later hI.1).br.cell (j := 5) rfl; rw [HQ.o.1] at x0; exact N.gi _ ⟨fun _ => N.oi, gX⟩
    ·clear hT hF hk
     exact N.gi _ ⟨fun _ => N.oi, hI⟩
    ·have wS := (hd 11 40).trans (hk 11 _ rfl); have hc := hE.const; clear hT hF hk; have h1 := HQ.o.2.1; have h2 := HQ.o.2.2.1; have h3 := HQ.o.2.2.2
     have h9 : IntKind.i64.wrap ((k : Int) + 1) = (k : Int) + 1 := by rw [IntKind.wrap_i64]; omega
     exact N.gi _ ⟨fun _ => N.oi, hI⟩
    ·have e39 := (hd 10 39).trans (hk 10 _ rfl); have zA := (hd 12 41).trans (hk 12 _ rfl); clear hT hF hk; have h1 := HQ.o.2.1; have h2 := HQ.o.2.2.1; have h4 := zw.o; have h5 := tW.o.1; have h6 := tW.o.2.1; have h7 := tW.o.2.2
     have h8 : (0 : Int) <= (k : Int) + 1 := by omega
     have h9 : (k : Int) + 1 <= (s.ay.length : Int) := by omega
     have h10 : (k : Int) < (s.ay.length : Int) := by omega
     have h11 : ((k : Int) + 1).toNat = k + 1 := by omega
     exact N.gi _ ⟨fun _ => N.oi, hI⟩
    ·have r9 := (hd 6 35).trans (hk 6 _ rfl); have DJ := (hd 13 42).trans (hk 13 _ rfl); have eJ : D 14 = false := cP; have bR : D 15 = false := hF 1 15; have dh : D 18 = false := hF 1 18; clear hT hF
     simp only [eJ, bR, dh, cond_false] at hI; have hal := av wi (.cells #[.slice (some ⟨qb, 0, none⟩) k y.q, .slice (some ⟨qb, 0, none⟩) (s.ay.length - (k + 1)) (y.q - (k + 1))] 28); exact N.Gives.value (v := .slice (some ⟨wi.heap.size, 0, none⟩) 2 2) (w' := wi.alloc (.cells #[.slice (some ⟨qb, 0, none⟩) k y.q, .slice (some ⟨qb, 0, none⟩) (s.ay.length - (k + 1)) (y.q - (k + 1))] 28)) (by go_simp) ⟨fun x h => (by cases h), by show cond (D 18) (Step base b s y wd { s with ay := cut s.ay k } (wi.alloc (.cells #[.slice (some ⟨qb, 0, none⟩) k y.q, .slice (some ⟨qb, 0, none⟩) (s.ay.length - (k + 1)) (y.q - (k + 1))] 28))) (cond (D 15) (fX base b y (cut s.ay k) (cut y.ps k) wd (V 15) (wi.alloc (.cells #[.slice (some ⟨qb, 0, none⟩) k y.q, .slice (some ⟨qb, 0, none⟩) (s.ay.length - (k + 1)) (y.q - (k + 1))] 28))) (Below wd.heap.size wd (wi.alloc (.cells #[.slice (some ⟨qb, 0, none⟩) k y.q, .slice (some ⟨qb, 0, none⟩) (s.ay.length - (k + 1)) (y.q - (k + 1))] 28)) /\ (true = true -> ∃ g2, (Value.slice (some ⟨wi.heap.size, 0, none⟩) 2 2) = .slice (some ⟨g2, 0, none⟩) 2 2 /\ Cells (wi.alloc (.cells #[.slice (some ⟨qb, 0, none⟩) k y.q, .slice (some ⟨qb, 0, none⟩) (s.ay.length - (k + 1)) (y.q - (k + 1))] 28)) g2 28 [.slice (some ⟨qb, 0, none⟩) k y.q, .slice (some ⟨qb, 0, none⟩) (s.ay.length - (k + 1)) (y.q - (k + 1))]))); rw [bR, dh]; exact ⟨hI.1.trans (hal.mono hI.1.size), fun _ => ⟨_, rfl, aB wi _ _ _ rfl⟩⟩⟩
    ·have uP : ρ (.tmp 43) = V 14 := hd 14 43; have hf := hE.func; have eJ : D 14 = true := hT 1 14; have bR : D 15 = false := cP; have dh : D 18 = false := hF 1 18; clear hT hF
     simp only [eJ, bR, dh, cond_false] at hI; obtain ⟨g2, hv2, hc2⟩ := hI.2 trivial; have SZ := uP.trans hv2; clear uP; refine N.Gives.call (f := 98) (args := #[.slice (some ⟨g2, 0, none⟩) 2 2]) (w' := wi) (by go_simp) ?_; refine (mH (k := k) (cu.o.later hI.1) cu.o hI.1 uT.o HQ.o.2.2.2 HQ.o.2.1 HQ.o.1 (by first | exact Or.inl zw.o | exact Or.inr rfl) HQ.o.2.2.1 hc2).mono ?_; rintro e w'' ⟨v', rfl, hins⟩; refine ⟨_, rfl, fun x h => (by cases h), ?_⟩; show cond (D 18) (Step base b s y wd { s with ay := cut s.ay k } w'') (cond true (fX base b y (cut s.ay k) (cut y.ps k) wd v' w'') (Below wd.heap.size wd w'' /\ ((D 14) = true -> ∃ g2, (V 14) = .slice (some ⟨g2, 0, none⟩) 2 2 /\ Cells w'' g2 28 [.slice (some ⟨qb, 0, none⟩) k y.q, .slice (some ⟨qb, 0, none⟩) (s.ay.length - (k + 1)) (y.q - (k + 1))])))
     rw [dh]; exact hins
    ·have wK := (hd 0 29).trans (hk 0 _ rfl); clear hT hF hk
     exact N.gi _ ⟨fun _ => N.oi, hI⟩
    ·have DI := (hd 16 45).trans (hk 16 _ rfl); clear hT hF hk
     exact N.gi _ ⟨fun _ => N.oi, hI⟩
    have F4 := (hd 17 46).trans (hk 17 _ rfl); have uO : ρ (.tmp 44) = V 15 := hd 15 44; have bR : D 15 = true := hT 1 15; have dh : D 18 = false := cP; clear hT hF
    simp only [bR, dh, cond_true, cond_false] at hI; obtain ⟨A9, n9, c9, f1, x0, x1⟩ := iY cu.o hI; have SY := uO.trans f1; clear uO; exact N.Gives.skip (w' := wi.setCell ⟨b, 5, none⟩ (V 15)) (by rw [f1]; clear f1; go_simp) ⟨fun x h => (by cases h), jI cu.o hI⟩
   intro V wz hk hI
   simp only [N.aP, List.foldl_cons, List.foldl_nil, Act.put, List.setIfInBounds_toArray, List.set_cons_succ, List.set_cons_zero]; replace hI : cond true (Step base b s y wd { s with ay := cut s.ay k } wz) (cond true (fX base b y (cut s.ay k) (cut y.ps k) wd (V 15) wz) (Below wd.heap.size wd wz /\ (true = true -> ∃ g2, (V 14) = .slice (some ⟨g2, 0, none⟩) 2 2 /\ Cells wz g2 28 [.slice (some ⟨qb, 0, none⟩) k y.q, .slice (some ⟨qb, 0, none⟩) (s.ay.length - (k + 1)) (y.q - (k + 1))]))) := hI; clear hk; obtain ⟨y2, FW, vF, uf⟩ := hI; have vH := ak (aJ fT.o vF fun e => by have := Vh.o _ e; omega)
   have kj := ak (And.intro FW (And.intro vF uf)); have Lj := ak ((jR.o.next vF uf).two); clear FW vF uf HI; have hx := vH.o; unfold Rc.vals at hx; obtain ⟨x0, x1, x2, x3, x4, x5, x6, x7, x8, x9, x10, eW, eV, eU, dZ⟩ := hx.iZ; clear hx
   go_wp2_with fail
   clear x0 x1 x2 x3 x4 x5 x6 x7 x8 x9 x10 eW eV eU dZ; refine (gD { s with ay := cut s.ay k } y2 r z base b wz kj.o.1 Lj.o (Gw.o.cut k) dP.o).mono ?_; rintro e w9 ⟨rfl, hst⟩; have HN := ak hst; clear hst
   go_wp2_with fail
   go_returns
   exact ⟨aL (by rw [bf.o]), by rw [bf.o]; exact Step.before bB.o (Step.next cu.o Wv.o (fun _ e => Or.inl e) (Step.next kj.o.1 kj.o.2.1 kj.o.2.2 HN.o))⟩
  have zw := ak dL
  clear dL; have HI : Hid (∀ V : Nat -> Value, cond false (Step base b s y wd { s with ay := cut s.ay k } wd.drew) (cond false (fX base b y (cut s.ay k) (cut y.ps k) wd (V 15) wd.drew) (Below wd.heap.size wd wd.drew /\ (false = true -> ∃ g2, (V 14) = .slice (some ⟨g2, 0, none⟩) 2 2 /\ Cells wd.drew g2 28 [.slice (some ⟨qb, 0, none⟩) k y.q, .slice (some ⟨qb, ((k + 1) * 5), none⟩) (s.ay.length - (k + 1)) (y.q - (k + 1))])))) := ak fun V => ⟨(Below.refl _ _).drew, fun e => (by cases e)⟩
  go_upto_region 6 with (fail)
  refine N.bk (by kernel_rfl) (fun i => ([some ((au b)), some ((au b)), some ((au b)), some (.pointer (some ⟨b, 5, none⟩)), some (.slice (some ⟨qb, 0, none⟩) s.ay.length y.q), some (iv (k : Int)), some (.slice (some ⟨qb, 0, none⟩) k y.q), some ((au b)), some ((au b)), some (.pointer (some ⟨b, 5, none⟩)), some (.slice (some ⟨qb, 0, none⟩) s.ay.length y.q), some (iv (k : Int)), some (iv ((k : Int) + 1)), some (.slice (some ⟨qb, ((k + 1) * 5), none⟩) (s.ay.length - (k + 1)) (y.q - (k + 1))), none, none, some ((au b)), some (.pointer (some ⟨b, 5, none⟩)), none] : List (Option Value)).getD i none) (fun D V W => cond (D 18) (Step base b s y wd { s with ay := cut s.ay k } W) (cond (D 15) (fX base b y (cut s.ay k) (cut y.ps k) wd (V 15) W) (Below wd.heap.size wd W /\ ((D 14) = true -> ∃ g2, (V 14) = .slice (some ⟨g2, 0, none⟩) 2 2 /\ Cells W g2 28 [.slice (some ⟨qb, 0, none⟩) k y.q, .slice (some ⟨qb, ((k + 1) * 5), none⟩) (s.ay.length - (k + 1)) (y.q - (k + 1))])))) (fun V => [(some 29, V 0), (some 30, V 1), (some 31, V 2), (some 32, V 3), (some 33, V 4), (some 34, V 5), (some 35, V 6), (some 36, V 7), (some 37, V 8), (some 38, V 9), (some 39, V 10), (some 40, V 11), (some 41, V 12), (some 42, V 13), (some 43, V 14), (some 44, V 15), (some 45, V 16), (some 46, V 17), (none, V 18)]) (by kernel_rfl) (by kernel_rfl) (fun V => rfl) ?_ ?_ ?_
  ·intro V
   exact HI.o V
  ·intro i o ho
   have hi : i < 19 := (Array.getElem?_eq_some_iff.1 ho).1; rcases i with _ | _ | _ | _ | _ | _ | _ | _ | _ | _ | _ | _ | _ | _ | _ | _ | _ | _ | _ | i
   rotate_right
   ·omega
   all_goals obtain rfl := Option.some.inj ho
   all_goals intro D V ρ wi hE hI cP hT hF hs hd hk
   all_goals (have e0 : ρ (.tmp 0) = (au b) := hs 0; have e5 : ρ (.tmp 5) = iv (k : Int) := hs 5)
   ·clear hT hF hk
    exact N.gi _ ⟨fun _ => N.oi, hI⟩
   ·clear hT hF hk
    exact N.gi _ ⟨fun _ => N.oi, hI⟩
   ·have e30 := (hd 1 30).trans (hk 1 _ rfl); clear hT hF hk
    exact N.gi _ ⟨fun _ => N.oi, hI⟩
   ·have uQ := (hd 2 31).trans (hk 2 _ rfl); clear hT hF hk
    exact N.gi _ ⟨fun _ => N.oi, hI⟩
   ·have zB := (hd 3 32).trans (hk 3 _ rfl); have bR : D 15 = false := hF 3 15; have dh : D 18 = false := hF 1 18; clear hT hF; have gX := hI
    simp only [bR, dh, cond_false] at hI; have x0 := (cu.o.later hI.1).br.cell (j := 5) rfl; rw [HQ.o.1] at x0; exact N.gi _ ⟨fun _ => N.oi, gX⟩
   ·clear hT hF hk
    exact N.gi _ ⟨fun _ => N.oi, hI⟩
   ·have Bk := (hd 4 33).trans (hk 4 _ rfl); have Bj := (hd 5 34).trans (hk 5 _ rfl); clear hT hF hk; have h1 := HQ.o.2.1; have h2 := HQ.o.2.2.1
    have h9 : k <= y.q := by omega
    have h8 := tW.o.2.1; exact N.gi _ ⟨fun _ => N.oi, hI⟩
   ·clear hT hF hk
    exact N.gi _ ⟨fun _ => N.oi, hI⟩
   ·have r8 := (hd 7 36).trans (hk 7 _ rfl); clear hT hF hk
    exact N.gi _ ⟨fun _ => N.oi, hI⟩
   ·have zi := (hd 8 37).trans (hk 8 _ rfl); clear hT hF hk
    exact N.gi _ ⟨fun _ => N.oi, hI⟩
   ·have e38 := (hd 9 38).trans (hk 9 _ rfl); have bR : D 15 = false := hF 3 15; have dh : D 18 = false := hF 1 18; clear hT hF; have gX := hI
    simp only [bR, dh, cond_false] at hI; have x0 := (cu.o.later hI.1).br.cell (j := 5) rfl; rw [HQ.o.1] at x0; exact N.gi _ ⟨fun _ => N.oi, gX⟩
   ·clear hT hF hk
    exact N.gi _ ⟨fun _ => N.oi, hI⟩
   ·have wS := (hd 11 40).trans (hk 11 _ rfl); have hc := hE.const; clear hT hF hk; have h1 := HQ.o.2.1; have h2 := HQ.o.2.2.1; have h3 := HQ.o.2.2.2
    have h9 : IntKind.i64.wrap ((k : Int) + 1) = (k : Int) + 1 := by rw [IntKind.wrap_i64]; omega
    exact N.gi _ ⟨fun _ => N.oi, hI⟩
   ·have e39 := (hd 10 39).trans (hk 10 _ rfl); have zA := (hd 12 41).trans (hk 12 _ rfl); clear hT hF hk; have h1 := HQ.o.2.1; have h2 := HQ.o.2.2.1; have h4 := zw.o; have h5 := tW.o.1; have h6 := tW.o.2.1; have h7 := tW.o.2.2
    have h8 : (0 : Int) <= (k : Int) + 1 := by omega
    have h9 : (k : Int) + 1 <= (s.ay.length : Int) := by omega
    have h10 : (k : Int) < (s.ay.length : Int) := by omega
    have h11 : ((k : Int) + 1).toNat = k + 1 := by omega
    exact N.gi _ ⟨fun _ => N.oi, hI⟩
   ·have r9 := (hd 6 35).trans (hk 6 _ rfl); have DJ := (hd 13 42).trans (hk 13 _ rfl); have eJ : D 14 = false := cP; have bR : D 15 = false := hF 1 15; have dh : D 18 = false := hF 1 18; clear hT hF
    simp only [eJ, bR, dh, cond_false] at hI; have hal := av wi (.cells #[.slice (some ⟨qb, 0, none⟩) k y.q, .slice (some ⟨qb, ((k + 1) * 5), none⟩) (s.ay.length - (k + 1)) (y.q - (k + 1))] 28); exact N.Gives.value (v := .slice (some ⟨wi.heap.size, 0, none⟩) 2 2) (w' := wi.alloc (.cells #[.slice (some ⟨qb, 0, none⟩) k y.q, .slice (some ⟨qb, ((k + 1) * 5), none⟩) (s.ay.length - (k + 1)) (y.q - (k + 1))] 28)) (by go_simp) ⟨fun x h => (by cases h), by show cond (D 18) (Step base b s y wd { s with ay := cut s.ay k } (wi.alloc (.cells #[.slice (some ⟨qb, 0, none⟩) k y.q, .slice (some ⟨qb, ((k + 1) * 5), none⟩) (s.ay.length - (k + 1)) (y.q - (k + 1))] 28))) (cond (D 15) (fX base b y (cut s.ay k) (cut y.ps k) wd (V 15) (wi.alloc (.cells #[.slice (some ⟨qb, 0, none⟩) k y.q, .slice (some ⟨qb, ((k + 1) * 5), none⟩) (s.ay.length - (k + 1)) (y.q - (k + 1))] 28))) (Below wd.heap.size wd (wi.alloc (.cells #[.slice (some ⟨qb, 0, none⟩) k y.q, .slice (some ⟨qb, ((k + 1) * 5), none⟩) (s.ay.length - (k + 1)) (y.q - (k + 1))] 28)) /\ (true = true -> ∃ g2, (Value.slice (some ⟨wi.heap.size, 0, none⟩) 2 2) = .slice (some ⟨g2, 0, none⟩) 2 2 /\ Cells (wi.alloc (.cells #[.slice (some ⟨qb, 0, none⟩) k y.q, .slice (some ⟨qb, ((k + 1) * 5), none⟩) (s.ay.length - (k + 1)) (y.q - (k + 1))] 28)) g2 28 [.slice (some ⟨qb, 0, none⟩) k y.q, .slice (some ⟨qb, ((k + 1) * 5), none⟩) (s.ay.length - (k + 1)) (y.q - (k + 1))]))); rw [bR, dh]; exact ⟨hI.1.trans (hal.mono hI.1.size), fun _ => ⟨_, rfl, aB wi _ _ _ rfl⟩⟩⟩
   ·have uP : ρ (.tmp 43) = V 14 := hd 14 43; have hf := hE.func; have eJ : D 14 = true := hT 1 14; have bR : D 15 = false := cP; have dh : D 18 = false := hF 1 18; clear hT hF
    simp only [eJ, bR, dh, cond_false] at hI; obtain ⟨g2, hv2, hc2⟩ := hI.2 trivial; have SZ := uP.trans hv2; clear uP; refine N.Gives.call (f := 98) (args := #[.slice (some ⟨g2, 0, none⟩) 2 2]) (w' := wi) (by go_simp) ?_; refine (mH (k := k) (cu.o.later hI.1) cu.o hI.1 uT.o HQ.o.2.2.2 HQ.o.2.1 HQ.o.1 (by first | exact Or.inl zw.o | exact Or.inr rfl) HQ.o.2.2.1 hc2).mono ?_; rintro e w'' ⟨v', rfl, hins⟩; refine ⟨_, rfl, fun x h => (by cases h), ?_⟩; show cond (D 18) (Step base b s y wd { s with ay := cut s.ay k } w'') (cond true (fX base b y (cut s.ay k) (cut y.ps k) wd v' w'') (Below wd.heap.size wd w'' /\ ((D 14) = true -> ∃ g2, (V 14) = .slice (some ⟨g2, 0, none⟩) 2 2 /\ Cells w'' g2 28 [.slice (some ⟨qb, 0, none⟩) k y.q, .slice (some ⟨qb, ((k + 1) * 5), none⟩) (s.ay.length - (k + 1)) (y.q - (k + 1))])))
    rw [dh]; exact hins
   ·have wK := (hd 0 29).trans (hk 0 _ rfl); clear hT hF hk
    exact N.gi _ ⟨fun _ => N.oi, hI⟩
   ·have DI := (hd 16 45).trans (hk 16 _ rfl); clear hT hF hk
    exact N.gi _ ⟨fun _ => N.oi, hI⟩
   have F4 := (hd 17 46).trans (hk 17 _ rfl); have uO : ρ (.tmp 44) = V 15 := hd 15 44; have bR : D 15 = true := hT 1 15; have dh : D 18 = false := cP; clear hT hF
   simp only [bR, dh, cond_true, cond_false] at hI; obtain ⟨A9, n9, c9, f1, x0, x1⟩ := iY cu.o hI; have SY := uO.trans f1; clear uO; exact N.Gives.skip (w' := wi.setCell ⟨b, 5, none⟩ (V 15)) (by rw [f1]; clear f1; go_simp) ⟨fun x h => (by cases h), jI cu.o hI⟩
  intro V wz hk hI
  simp only [N.aP, List.foldl_cons, List.foldl_nil, Act.put, List.setIfInBounds_toArray, List.set_cons_succ, List.set_cons_zero]; replace hI : cond true (Step base b s y wd { s with ay := cut s.ay k } wz) (cond true (fX base b y (cut s.ay k) (cut y.ps k) wd (V 15) wz) (Below wd.heap.size wd wz /\ (true = true -> ∃ g2, (V 14) = .slice (some ⟨g2, 0, none⟩) 2 2 /\ Cells wz g2 28 [.slice (some ⟨qb, 0, none⟩) k y.q, .slice (some ⟨qb, ((k + 1) * 5), none⟩) (s.ay.length - (k + 1)) (y.q - (k + 1))]))) := hI; clear hk; obtain ⟨y2, FW, vF, uf⟩ := hI; have vH := ak (aJ fT.o vF fun e => by have := Vh.o _ e; omega)
  have kj := ak (And.intro FW (And.intro vF uf)); have Lj := ak ((jR.o.next vF uf).two); clear FW vF uf HI; have hx := vH.o; unfold Rc.vals at hx; obtain ⟨x0, x1, x2, x3, x4, x5, x6, x7, x8, x9, x10, eW, eV, eU, dZ⟩ := hx.iZ; clear hx
  go_wp2_with fail
  clear x0 x1 x2 x3 x4 x5 x6 x7 x8 x9 x10 eW eV eU dZ; refine (gD { s with ay := cut s.ay k } y2 r z base b wz kj.o.1 Lj.o (Gw.o.cut k) dP.o).mono ?_; rintro e w9 ⟨rfl, hst⟩; have HN := ak hst; clear hst
  go_wp2_with fail
  go_returns
  exact ⟨aL (by rw [bf.o]), by rw [bf.o]; exact Step.before bB.o (Step.next cu.o Wv.o (fun _ e => Or.inl e) (Step.next kj.o.1 kj.o.2.1 kj.o.2.2 HN.o))⟩
 | false =>
  have HY := ak hy; rw [hy] at dZ; have Gw := dU; have HQ := F8; have tW : Hid (s0.ay.length <= 100000 /\ y.q <= 9223372036854775807 /\ k <= 100000) := ak ⟨HQ.o.2.2.2, by have := Ww.o; unfold maxLen at this; omega, by have := HQ.o.2.1; have := HQ.o.2.2.2; omega⟩
  have bf : Hid (F = (eX { s0 with ay := cut s0.ay k } r, 0)) := ak (by
   rw [HF.o]; unfold cK; rw [if_neg (by have := zU.o; omega), HK.o, Int.toNat_natCast, if_neg (by rw [HY.o]; exact Bool.false_ne_true)])
  clear hy hcap hmax hkl hk' hcell hQ
  by_cases dL : y.q = k + 1
  ·have zw := ak dL
   clear dL; have HI : Hid (∀ V : Nat -> Value, cond false (Step base b s0 y wc { s0 with ay := cut s0.ay k } wc.drew) (cond false (fX base b y (cut s0.ay k) (cut y.ps k) wc (V 15) wc.drew) (Below wc.heap.size wc wc.drew /\ (false = true -> ∃ g2, (V 14) = .slice (some ⟨g2, 0, none⟩) 2 2 /\ Cells wc.drew g2 28 [.slice (some ⟨qb, 0, none⟩) k y.q, .slice (some ⟨qb, 0, none⟩) (s0.ay.length - (k + 1)) (y.q - (k + 1))])))) := ak fun V => ⟨(Below.refl _ _).drew, fun e => (by cases e)⟩
   go_upto_region 6 with (fail)
   refine N.bk (by kernel_rfl) (fun i => ([some ((au b)), some ((au b)), some ((au b)), some (.pointer (some ⟨b, 5, none⟩)), some (.slice (some ⟨qb, 0, none⟩) s0.ay.length y.q), some (iv (k : Int)), some (.slice (some ⟨qb, 0, none⟩) k y.q), some ((au b)), some ((au b)), some (.pointer (some ⟨b, 5, none⟩)), some (.slice (some ⟨qb, 0, none⟩) s0.ay.length y.q), some (iv (k : Int)), some (iv ((k : Int) + 1)), some (.slice (some ⟨qb, 0, none⟩) (s0.ay.length - (k + 1)) (y.q - (k + 1))), none, none, some ((au b)), some (.pointer (some ⟨b, 5, none⟩)), none] : List (Option Value)).getD i none) (fun D V W => cond (D 18) (Step base b s0 y wc { s0 with ay := cut s0.ay k } W) (cond (D 15) (fX base b y (cut s0.ay k) (cut y.ps k) wc (V 15) W) (Below wc.heap.size wc W /\ ((D 14) = true -> ∃ g2, (V 14) = .slice (some ⟨g2, 0, none⟩) 2 2 /\ Cells W g2 28 [.slice (some ⟨qb, 0, none⟩) k y.q, .slice (some ⟨qb, 0, none⟩) (s0.ay.length - (k + 1)) (y.q - (k + 1))])))) (fun V => [(some 29, V 0), (some 30, V 1), (some 31, V 2), (some 32, V 3), (some 33, V 4), (some 34, V 5), (some 35, V 6), (some 36, V 7), (some 37, V 8), (some 38, V 9), (some 39, V 10), (some 40, V 11), (some 41, V 12), (some 42, V 13), (some 43, V 14), (some 44, V 15), (some 45, V 16), (some 46, V 17), (none, V 18)]) (by kernel_rfl) (by kernel_rfl) (fun V => rfl) ?_ ?_ ?_
   ·intro V
    exact HI.o V
   ·intro i o ho
    have hi : i < 19 := (Array.getElem?_eq_some_iff.1 ho).1; rcases i with _ | _ | _ | _ | _ | _ | _ | _ | _ | _ | _ | _ | _ | _ | _ | _ | _ | _ | _ | i
    rotate_right
    ·omega
    all_goals obtain rfl := Option.some.inj ho
    all_goals intro D V ρ wi hE hI cP hT hF hs hd hk
    all_goals (have e0 : ρ (.tmp 0) = (au b) := hs 0; have e5 : ρ (.tmp 5) = iv (k : Int) := hs 5)
    ·clear hT hF hk
     exact N.gi _ ⟨fun _ => N.oi, hI⟩
    ·clear hT hF hk
     exact N.gi _ ⟨fun _ => N.oi, hI⟩
    ·have e30 := (hd 1 30).trans (hk 1 _ rfl); clear hT hF hk
     exact N.gi _ ⟨fun _ => N.oi, hI⟩
    ·have uQ := (hd 2 31).trans (hk 2 _ rfl); clear hT hF hk
     exact N.gi _ ⟨fun _ => N.oi, hI⟩
    ·have zB := (hd 3 32).trans (hk 3 _ rfl); have bR : D 15 = false := hF 3 15; have dh : D 18 = false := hF 1 18; clear hT hF; have gX := hI
     simp only [bR, dh, cond_false] at hI; have x0 := (aR.o.later hI.1).br.cell (j := 5) rfl; rw [HQ.o.1] at x0; exact N.gi _ ⟨fun _ => N.oi, gX⟩
    ·clear hT hF hk
     exact N.gi _ ⟨fun _ => N.oi, hI⟩
    ·have Bk := (hd 4 33).trans (hk 4 _ rfl); have Bj := (hd 5 34).trans (hk 5 _ rfl); clear hT hF hk; have h1 := HQ.o.2.1; have h2 := HQ.o.2.2.1
     have h9 : k <= y.q := by omega
     have h8 := tW.o.2.1; exact N.gi _ ⟨fun _ => N.oi, hI⟩
    ·clear hT hF hk
     exact N.gi _ ⟨fun _ => N.oi, hI⟩
    ·have r8 := (hd 7 36).trans (hk 7 _ rfl); clear hT hF hk
     exact N.gi _ ⟨fun _ => N.oi, hI⟩
    ·have zi := (hd 8 37).trans (hk 8 _ rfl); clear hT hF hk
     exact N.gi _ ⟨fun _ => N.oi, hI⟩
    ·have e38 := (hd 9 38).trans (hk 9 _ rfl); have bR : D 15 = false := hF 3 15; have dh : D 18 = false := hF 1 18; clear hT hF; have gX := hI
     simp only [bR, dh, cond_false] at hI; have x0 := (aR.o.later hI.1).br.cell (j := 5) rfl; rw [HQ.o.1] at x0; exact N.gi _ ⟨fun _ => N.oi, gX⟩
    ·clear hT hF hk
     exact N.gi _ ⟨fun _ => N.oi, hI⟩
    ·have wS := (hd 11 40).trans (hk 11 _ rfl); have hc := hE.const; clear hT hF hk; have h1 := HQ.o.2.1; have h2 := HQ.o.2.2.1; have h3 := HQ.o.2.2.2
     have h9 : IntKind.i64.wrap ((k : Int) + 1) = (k : Int) + 1 := by rw [IntKind.wrap_i64]; omega
     exact N.gi _ ⟨fun _ => N.oi, hI⟩
    ·have e39 := (hd 10 39).trans (hk 10 _ rfl); have zA := (hd 12 41).trans (hk 12 _ rfl); clear hT hF hk; have h1 := HQ.o.2.1; have h2 := HQ.o.2.2.1; have h4 := zw.o; have h5 := tW.o.1; have h6 := tW.o.2.1; have h7 := tW.o.2.2
     have h8 : (0 : Int) <= (k : Int) + 1 := by omega
     have h9 : (k : Int) + 1 <= (s0.ay.length : Int) := by omega
     have h10 : (k : Int) < (s0.ay.length : Int) := by omega
     have h11 : ((k : Int) + 1).toNat = k + 1 := by omega
     exact N.gi _ ⟨fun _ => N.oi, hI⟩
    ·have r9 := (hd 6 35).trans (hk 6 _ rfl); have DJ := (hd 13 42).trans (hk 13 _ rfl); have eJ : D 14 = false := cP; have bR : D 15 = false := hF 1 15; have dh : D 18 = false := hF 1 18; clear hT hF
     simp only [eJ, bR, dh, cond_false] at hI; have hal := av wi (.cells #[.slice (some ⟨qb, 0, none⟩) k y.q, .slice (some ⟨qb, 0, none⟩) (s0.ay.length - (k + 1)) (y.q - (k + 1))] 28); exact N.Gives.value (v := .slice (some ⟨wi.heap.size, 0, none⟩) 2 2) (w' := wi.alloc (.cells #[.slice (some ⟨qb, 0, none⟩) k y.q, .slice (some ⟨qb, 0, none⟩) (s0.ay.length - (k + 1)) (y.q - (k + 1))] 28)) (by go_simp) ⟨fun x h => (by cases h), by show cond (D 18) (Step base b s0 y wc { s0 with ay := cut s0.ay k } (wi.alloc (.cells #[.slice (some ⟨qb, 0, none⟩) k y.q, .slice (some ⟨qb, 0, none⟩) (s0.ay.length - (k + 1)) (y.q - (k + 1))] 28))) (cond (D 15) (fX base b y (cut s0.ay k) (cut y.ps k) wc (V 15) (wi.alloc (.cells #[.slice (some ⟨qb, 0, none⟩) k y.q, .slice (some ⟨qb, 0, none⟩) (s0.ay.length - (k + 1)) (y.q - (k + 1))] 28))) (Below wc.heap.size wc (wi.alloc (.cells #[.slice (some ⟨qb, 0, none⟩) k y.q, .slice (some ⟨qb, 0, none⟩) (s0.ay.length - (k + 1)) (y.q - (k + 1))] 28)) /\ (true = true -> ∃ g2, (Value.slice (some ⟨wi.heap.size, 0, none⟩) 2 2) = .slice (some ⟨g2, 0, none⟩) 2 2 /\ Cells (wi.alloc (.cells #[.slice (some ⟨qb, 0, none⟩) k y.q, .slice (some ⟨qb, 0, none⟩) (s0.ay.length - (k + 1)) (y.q - (k + 1))] 28)) g2 28 [.slice (some ⟨qb, 0, none⟩) k y.q, .slice (some ⟨qb, 0, none⟩) (s0.ay.length - (k + 1)) (y.q - (k + 1))]))); rw [bR, dh]; exact ⟨hI.1.trans (hal.mono hI.1.size), fun _ => ⟨_, rfl, aB wi _ _ _ rfl⟩⟩⟩
    ·have uP : ρ (.tmp 43) = V 14 := hd 14 43; have hf := hE.func; have eJ : D 14 = true := hT 1 14; have bR : D 15 = false := cP; have dh : D 18 = false := hF 1 18; clear hT hF
     simp only [eJ, bR, dh, cond_false] at hI; obtain ⟨g2, hv2, hc2⟩ := hI.2 trivial; have SZ := uP.trans hv2; clear uP; refine N.Gives.call (f := 98) (args := #[.slice (some ⟨g2, 0, none⟩) 2 2]) (w' := wi) (by go_simp) ?_; refine (mH (k := k) (aR.o.later hI.1) aR.o hI.1 uT.o HQ.o.2.2.2 HQ.o.2.1 HQ.o.1 (by first | exact Or.inl zw.o | exact Or.inr rfl) HQ.o.2.2.1 hc2).mono ?_; rintro e w'' ⟨v', rfl, hins⟩; refine ⟨_, rfl, fun x h => (by cases h), ?_⟩; show cond (D 18) (Step base b s0 y wc { s0 with ay := cut s0.ay k } w'') (cond true (fX base b y (cut s0.ay k) (cut y.ps k) wc v' w'') (Below wc.heap.size wc w'' /\ ((D 14) = true -> ∃ g2, (V 14) = .slice (some ⟨g2, 0, none⟩) 2 2 /\ Cells w'' g2 28 [.slice (some ⟨qb, 0, none⟩) k y.q, .slice (some ⟨qb, 0, none⟩) (s0.ay.length - (k + 1)) (y.q - (k + 1))])))
     rw [dh]; exact hins
    ·have wK := (hd 0 29).trans (hk 0 _ rfl); clear hT hF hk
     exact N.gi _ ⟨fun _ => N.oi, hI⟩
    ·have DI := (hd 16 45).trans (hk 16 _ rfl); clear hT hF hk
     exact N.gi _ ⟨fun _ => N.oi, hI⟩
    have F4 := (hd 17 46).trans (hk 17 _ rfl); have uO : ρ (.tmp 44) = V 15 := hd 15 44; have bR : D 15 = true := hT 1 15; have dh : D 18 = false := cP; clear hT hF
    simp only [bR, dh, cond_true, cond_false] at hI; obtain ⟨A9, n9, c9, f1, x0, x1⟩ := iY aR.o hI; have SY := uO.trans f1; clear uO; exact N.Gives.skip (w' := wi.setCell ⟨b, 5, none⟩ (V 15)) (by rw [f1]; clear f1; go_simp) ⟨fun x h => (by cases h), jI aR.o hI⟩
   intro V wz hk hI
   simp only [N.aP, List.foldl_cons, List.foldl_nil, Act.put, List.setIfInBounds_toArray, List.set_cons_succ, List.set_cons_zero]; replace hI : cond true (Step base b s0 y wc { s0 with ay := cut s0.ay k } wz) (cond true (fX base b y (cut s0.ay k) (cut y.ps k) wc (V 15) wz) (Below wc.heap.size wc wz /\ (true = true -> ∃ g2, (V 14) = .slice (some ⟨g2, 0, none⟩) 2 2 /\ Cells wz g2 28 [.slice (some ⟨qb, 0, none⟩) k y.q, .slice (some ⟨qb, 0, none⟩) (s0.ay.length - (k + 1)) (y.q - (k + 1))]))) := hI; clear hk; obtain ⟨y2, FW, vF, uf⟩ := hI; have vH := ak (aJ bO.o vF fun e => by have := Vh.o _ e; omega)
   have kj := ak (And.intro FW (And.intro vF uf)); have Lj := ak ((cB.o.next vF uf).two); clear FW vF uf HI; have hx := vH.o; unfold Rc.vals at hx; obtain ⟨x0, x1, x2, x3, x4, x5, x6, x7, x8, x9, x10, eW, eV, eU, dZ⟩ := hx.iZ; clear hx
   go_wp2_with fail
   clear x0 x1 x2 x3 x4 x5 x6 x7 x8 x9 x10 eW eV eU dZ; refine (gD { s0 with ay := cut s0.ay k } y2 r z base b wz kj.o.1 Lj.o (Gw.o.cut k) dP.o).mono ?_; rintro e w9 ⟨rfl, hst⟩; have HN := ak hst; clear hst
   go_wp2_with fail
   go_returns
   exact ⟨aL (by rw [bf.o]), by rw [bf.o]; exact Step.before bB.o (Step.next aR.o (Only.refl _ _) (fun _ e => Or.inl e) (Step.next kj.o.1 kj.o.2.1 kj.o.2.2 HN.o))⟩
  have zw := ak dL
  clear dL; have HI : Hid (∀ V : Nat -> Value, cond false (Step base b s0 y wc { s0 with ay := cut s0.ay k } wc.drew) (cond false (fX base b y (cut s0.ay k) (cut y.ps k) wc (V 15) wc.drew) (Below wc.heap.size wc wc.drew /\ (false = true -> ∃ g2, (V 14) = .slice (some ⟨g2, 0, none⟩) 2 2 /\ Cells wc.drew g2 28 [.slice (some ⟨qb, 0, none⟩) k y.q, .slice (some ⟨qb, ((k + 1) * 5), none⟩) (s0.ay.length - (k + 1)) (y.q - (k + 1))])))) := ak fun V => ⟨(Below.refl _ _).drew, fun e => (by cases e)⟩
  go_upto_region 6 with (fail)
  refine N.bk (by kernel_rfl) (fun i => ([some ((au b)), some ((au b)), some ((au b)), some (.pointer (some ⟨b, 5, none⟩)), some (.slice (some ⟨qb, 0, none⟩) s0.ay.length y.q), some (iv (k : Int)), some (.slice (some ⟨qb, 0, none⟩) k y.q), some ((au b)), some ((au b)), some (.pointer (some ⟨b, 5, none⟩)), some (.slice (some ⟨qb, 0, none⟩) s0.ay.length y.q), some (iv (k : Int)), some (iv ((k : Int) + 1)), some (.slice (some ⟨qb, ((k + 1) * 5), none⟩) (s0.ay.length - (k + 1)) (y.q - (k + 1))), none, none, some ((au b)), some (.pointer (some ⟨b, 5, none⟩)), none] : List (Option Value)).getD i none) (fun D V W => cond (D 18) (Step base b s0 y wc { s0 with ay := cut s0.ay k } W) (cond (D 15) (fX base b y (cut s0.ay k) (cut y.ps k) wc (V 15) W) (Below wc.heap.size wc W /\ ((D 14) = true -> ∃ g2, (V 14) = .slice (some ⟨g2, 0, none⟩) 2 2 /\ Cells W g2 28 [.slice (some ⟨qb, 0, none⟩) k y.q, .slice (some ⟨qb, ((k + 1) * 5), none⟩) (s0.ay.length - (k + 1)) (y.q - (k + 1))])))) (fun V => [(some 29, V 0), (some 30, V 1), (some 31, V 2), (some 32, V 3), (some 33, V 4), (some 34, V 5), (some 35, V 6), (some 36, V 7), (some 37, V 8), (some 38, V 9), (some 39, V 10), (some 40, V 11), (some 41, V 12), (some 42, V 13), (some 43, V 14), (some 44, V 15), (some 45, V 16), (some 46, V 17), (none, V 18)]) (by kernel_rfl) (by kernel_rfl) (fun V => rfl) ?_ ?_ ?_
  ·intro V
   exact HI.o V
  ·intro i o ho
   have hi : i < 19 := (Array.getElem?_eq_some_iff.1 ho).1; rcases i with _ | _ | _ | _ | _ | _ | _ | _ | _ | _ | _ | _ | _ | _ | _ | _ | _ | _ | _ | i
   rotate_right
   ·omega
   all_goals obtain rfl := Option.some.inj ho
   all_goals intro D V ρ wi hE hI cP hT hF hs hd hk
   all_goals (have e0 : ρ (.tmp 0) = (au b) := hs 0; have e5 : ρ (.tmp 5) = iv (k : Int) := hs 5)
   ·clear hT hF hk
    exact N.gi _ ⟨fun _ => N.oi, hI⟩
   ·clear hT hF hk
    exact N.gi _ ⟨fun _ => N.oi, hI⟩
   ·have e30 := (hd 1 30).trans (hk 1 _ rfl); clear hT hF hk
    exact N.gi _ ⟨fun _ => N.oi, hI⟩
   ·have uQ := (hd 2 31).trans (hk 2 _ rfl); clear hT hF hk
    exact N.gi _ ⟨fun _ => N.oi, hI⟩
   ·have zB := (hd 3 32).trans (hk 3 _ rfl); have bR : D 15 = false := hF 3 15; have dh : D 18 = false := hF 1 18; clear hT hF; have gX := hI
    simp only [bR, dh, cond_false] at hI; have x0 := (aR.o.later hI.1).br.cell (j := 5) rfl; rw [HQ.o.1] at x0; exact N.gi _ ⟨fun _ => N.oi, gX⟩
   ·clear hT hF hk
    exact N.gi _ ⟨fun _ => N.oi, hI⟩
   ·have Bk := (hd 4 33).trans (hk 4 _ rfl); have Bj := (hd 5 34).trans (hk 5 _ rfl); clear hT hF hk; have h1 := HQ.o.2.1; have h2 := HQ.o.2.2.1
    have h9 : k <= y.q := by omega
    have h8 := tW.o.2.1; exact N.gi _ ⟨fun _ => N.oi, hI⟩
   ·clear hT hF hk
    exact N.gi _ ⟨fun _ => N.oi, hI⟩
   ·have r8 := (hd 7 36).trans (hk 7 _ rfl); clear hT hF hk
    exact N.gi _ ⟨fun _ => N.oi, hI⟩
   ·have zi := (hd 8 37).trans (hk 8 _ rfl); clear hT hF hk
    exact N.gi _ ⟨fun _ => N.oi, hI⟩
   ·have e38 := (hd 9 38).trans (hk 9 _ rfl); have bR : D 15 = false := hF 3 15; have dh : D 18 = false := hF 1 18; clear hT hF; have gX := hI
    simp only [bR, dh, cond_false] at hI; have x0 := (aR.o.later hI.1).br.cell (j := 5) rfl; rw [HQ.o.1] at x0; exact N.gi _ ⟨fun _ => N.oi, gX⟩
   ·clear hT hF hk
    exact N.gi _ ⟨fun _ => N.oi, hI⟩
   ·have wS := (hd 11 40).trans (hk 11 _ rfl); have hc := hE.const; clear hT hF hk; have h1 := HQ.o.2.1; have h2 := HQ.o.2.2.1; have h3 := HQ.o.2.2.2
    have h9 : IntKind.i64.wrap ((k : Int) + 1) = (k : Int) + 1 := by rw [IntKind.wrap_i64]; omega
    exact N.gi _ ⟨fun _ => N.oi, hI⟩
   ·have e39 := (hd 10 39).trans (hk 10 _ rfl); have zA := (hd 12 41).trans (hk 12 _ rfl); clear hT hF hk; have h1 := HQ.o.2.1; have h2 := HQ.o.2.2.1; have h4 := zw.o; have h5 := tW.o.1; have h6 := tW.o.2.1; have h7 := tW.o.2.2
    have h8 : (0 : Int) <= (k : Int) + 1 := by omega
    have h9 : (k : Int) + 1 <= (s0.ay.length : Int) := by omega
    have h10 : (k : Int) < (s0.ay.length : Int) := by omega
    have h11 : ((k : Int) + 1).toNat = k + 1 := by omega
    exact N.gi _ ⟨fun _ => N.oi, hI⟩
   ·have r9 := (hd 6 35).trans (hk 6 _ rfl); have DJ := (hd 13 42).trans (hk 13 _ rfl); have eJ : D 14 = false := cP; have bR : D 15 = false := hF 1 15; have dh : D 18 = false := hF 1 18; clear hT hF
    simp only [eJ, bR, dh, cond_false] at hI; have hal := av wi (.cells #[.slice (some ⟨qb, 0, none⟩) k y.q, .slice (some ⟨qb, ((k + 1) * 5), none⟩) (s0.ay.length - (k + 1)) (y.q - (k + 1))] 28); exact N.Gives.value (v := .slice (some ⟨wi.heap.size, 0, none⟩) 2 2) (w' := wi.alloc (.cells #[.slice (some ⟨qb, 0, none⟩) k y.q, .slice (some ⟨qb, ((k + 1) * 5), none⟩) (s0.ay.length - (k + 1)) (y.q - (k + 1))] 28)) (by go_simp) ⟨fun x h => (by cases h), by show cond (D 18) (Step base b s0 y wc { s0 with ay := cut s0.ay k } (wi.alloc (.cells #[.slice (some ⟨qb, 0, none⟩) k y.q, .slice (some ⟨qb, ((k + 1) * 5), none⟩) (s0.ay.length - (k + 1)) (y.q - (k + 1))] 28))) (cond (D 15) (fX base b y (cut s0.ay k) (cut y.ps k) wc (V 15) (wi.alloc (.cells #[.slice (some ⟨qb, 0, none⟩) k y.q, .slice (some ⟨qb, ((k + 1) * 5), none⟩) (s0.ay.length - (k + 1)) (y.q - (k + 1))] 28))) (Below wc.heap.size wc (wi.alloc (.cells #[.slice (some ⟨qb, 0, none⟩) k y.q, .slice (some ⟨qb, ((k + 1) * 5), none⟩) (s0.ay.length - (k + 1)) (y.q - (k + 1))] 28)) /\ (true = true -> ∃ g2, (Value.slice (some ⟨wi.heap.size, 0, none⟩) 2 2) = .slice (some ⟨g2, 0, none⟩) 2 2 /\ Cells (wi.alloc (.cells #[.slice (some ⟨qb, 0, none⟩) k y.q, .slice (some ⟨qb, ((k + 1) * 5), none⟩) (s0.ay.length - (k + 1)) (y.q - (k + 1))] 28)) g2 28 [.slice (some ⟨qb, 0, none⟩) k y.q, .slice (some ⟨qb, ((k + 1) * 5), none⟩) (s0.ay.length - (k + 1)) (y.q - (k + 1))]))); rw [bR, dh]; exact ⟨hI.1.trans (hal.mono hI.1.size), fun _ => ⟨_, rfl, aB wi _ _ _ rfl⟩⟩⟩
   ·have uP : ρ (.tmp 43) = V 14 := hd 14 43; have hf := hE.func; have eJ : D 14 = true := hT 1 14; have bR : D 15 = false := cP; have dh : D 18 = false := hF 1 18; clear hT hF
    simp only [eJ, bR, dh, cond_false] at hI; obtain ⟨g2, hv2, hc2⟩ := hI.2 trivial; have SZ := uP.trans hv2; clear uP; refine N.Gives.call (f := 98) (args := #[.slice (some ⟨g2, 0, none⟩) 2 2]) (w' := wi) (by go_simp) ?_; refine (mH (k := k) (aR.o.later hI.1) aR.o hI.1 uT.o HQ.o.2.2.2 HQ.o.2.1 HQ.o.1 (by first | exact Or.inl zw.o | exact Or.inr rfl) HQ.o.2.2.1 hc2).mono ?_; rintro e w'' ⟨v', rfl, hins⟩; refine ⟨_, rfl, fun x h => (by cases h), ?_⟩; show cond (D 18) (Step base b s0 y wc { s0 with ay := cut s0.ay k } w'') (cond true (fX base b y (cut s0.ay k) (cut y.ps k) wc v' w'') (Below wc.heap.size wc w'' /\ ((D 14) = true -> ∃ g2, (V 14) = .slice (some ⟨g2, 0, none⟩) 2 2 /\ Cells w'' g2 28 [.slice (some ⟨qb, 0, none⟩) k y.q, .slice (some ⟨qb, ((k + 1) * 5), none⟩) (s0.ay.length - (k + 1)) (y.q - (k + 1))])))
    rw [dh]; exact hins
   ·have wK := (hd 0 29).trans (hk 0 _ rfl); clear hT hF hk
    exact N.gi _ ⟨fun _ => N.oi, hI⟩
   ·have DI := (hd 16 45).trans (hk 16 _ rfl); clear hT hF hk
    exact N.gi _ ⟨fun _ => N.oi, hI⟩
   have F4 := (hd 17 46).trans (hk 17 _ rfl); have uO : ρ (.tmp 44) = V 15 := hd 15 44; have bR : D 15 = true := hT 1 15; have dh : D 18 = false := cP; clear hT hF
   simp only [bR, dh, cond_true, cond_false] at hI; obtain ⟨A9, n9, c9, f1, x0, x1⟩ := iY aR.o hI; have SY := uO.trans f1; clear uO; exact N.Gives.skip (w' := wi.setCell ⟨b, 5, none⟩ (V 15)) (by rw [f1]; clear f1; go_simp) ⟨fun x h => (by cases h), jI aR.o hI⟩
  intro V wz hk hI
  simp only [N.aP, List.foldl_cons, List.foldl_nil, Act.put, List.setIfInBounds_toArray, List.set_cons_succ, List.set_cons_zero]; replace hI : cond true (Step base b s0 y wc { s0 with ay := cut s0.ay k } wz) (cond true (fX base b y (cut s0.ay k) (cut y.ps k) wc (V 15) wz) (Below wc.heap.size wc wz /\ (true = true -> ∃ g2, (V 14) = .slice (some ⟨g2, 0, none⟩) 2 2 /\ Cells wz g2 28 [.slice (some ⟨qb, 0, none⟩) k y.q, .slice (some ⟨qb, ((k + 1) * 5), none⟩) (s0.ay.length - (k + 1)) (y.q - (k + 1))]))) := hI; clear hk; obtain ⟨y2, FW, vF, uf⟩ := hI; have vH := ak (aJ bO.o vF fun e => by have := Vh.o _ e; omega)
  have kj := ak (And.intro FW (And.intro vF uf)); have Lj := ak ((cB.o.next vF uf).two); clear FW vF uf HI; have hx := vH.o; unfold Rc.vals at hx; obtain ⟨x0, x1, x2, x3, x4, x5, x6, x7, x8, x9, x10, eW, eV, eU, dZ⟩ := hx.iZ; clear hx
  go_wp2_with fail
  clear x0 x1 x2 x3 x4 x5 x6 x7 x8 x9 x10 eW eV eU dZ; refine (gD { s0 with ay := cut s0.ay k } y2 r z base b wz kj.o.1 Lj.o (Gw.o.cut k) dP.o).mono ?_; rintro e w9 ⟨rfl, hst⟩; have HN := ak hst; clear hst
  go_wp2_with fail
  go_returns
  exact ⟨aL (by rw [bf.o]), by rw [bf.o]; exact Step.before bB.o (Step.next aR.o (Only.refl _ _) (fun _ e => Or.inl e) (Step.next kj.o.1 kj.o.2.1 kj.o.2.2 HN.o))⟩
