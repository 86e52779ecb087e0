/- Part 17 of the proof. Conditions: none. -/
import Derived.Test.YtdkchpiinelmiaaGreatZ15
import Derived.Test.YtdkchpiinelmiaaGreatZ6
import Derived.BigQuiet
namespace Go.Proofs.YtdkchpiinelmiaaGreat.fN
set_option maxRecDepth 100000
open Go.RowKit Mem Td
def iU (l : List It) (c : Int) : Int := match l.findIdx? (fun x => x.cell == c) with | some i => (i : Int) | none => -1
theorem xW {l : List It} {c : Int} {k : Nat} (hk : k < l.length) (h0 : ∀ j (hj : j < k), (l[j]'(by omega)).cell ≠ c) (h1 : l[k].cell = c) : iU l c = (k : Int) := by
 have e : l.findIdx? (fun x => x.cell == c) = some k := by
  rw [List.findIdx?_eq_some_iff_getElem]; exact ⟨hk, by simpa using h1, fun j hj => by simpa using h0 j hj⟩
 unfold iU; rw [e]
theorem tI {l : List It} {c : Int} (h : ∀ j (hj : j < l.length), l[j].cell ≠ c) : iU l c = -1 := by
 have e : l.findIdx? (fun x => x.cell == c) = none := by
  rw [List.findIdx?_eq_none_iff]; intro x hx; obtain ⟨j, hj, rfl⟩ := List.getElem_of_mem hx
  simpa using h j hj
 unfold iU; rw [e]
set_option maxHeartbeats 1000000 in
theorem yE (A : Option Addr) (l : List It) (cap : Nat) (c : Int) (w : World) (h : Items w A l) (hl : l.length <= 1000000) :
  Calls Tryz.prog 40 #[.slice A l.length cap, iv c] w fun e w' => e = .returned (iv (iU l c)) /\ w = w' := by
 have HH := ak h; obtain ⟨F, hF⟩ := ah (iU l c); have HF := ak hF; rw [hF]; obtain ⟨n, hn⟩ := ah l.length; have HN := ak hn; rw [hn] at hl ⊢; clear h hF hn
 go_enter Tryz.func40, Tryz.ntmps40
 go_wp2_with fail
 go_loopw [5] (fun i wr => ∃ k : Nat, k <= n /\ i = iv (k : Int) /\ Hid (∀ j (hj : j < l.length), j < k -> l[j].cell ≠ c) /\ w = wr) (fun i _ => n - (intOf i).toNat)
 case atStart => exact ⟨0, Nat.zero_le _, rfl, ak (fun j _ hj => absurd hj (by omega)), rfl⟩
 case round =>
  obtain ⟨k, hk, rfl, hd, rfl⟩ := hrel
  by_cases hlt : k < n
  ·have hlt' : k < l.length := by have := HN.o; omega
   obtain ⟨b, off, hA, hit⟩ := HH.o k hlt'; subst hA; have c0 := hit.cell; have jL : Hid (l[k].cell ≠ c -> ∀ j (hj : j < l.length), j < k + 1 -> l[j].cell ≠ c) := ak (fun h0 j hj hjk => by
    by_cases e : j = k
    ·subst e; exact h0
    exact hd.o j hj (by omega))
   have HE : Hid (l[k].cell = c -> F = (k : Int)) := ak (fun h1 => by rw [<- HF.o]; exact xW hlt' (fun j hj => hd.o j (by omega) hj) h1); obtain ⟨x, hx⟩ := ah (l[k].cell); rw [hx] at c0 jL HE; clear hit hx hlt'
   by_cases hxc : x = c
   ·have rJ := ak (HE.o hxc)
    subst hxc
    go_wp2_with fail
    go_returns
    exact ⟨aL rJ.o.symm, rfl⟩
   have rK := ak (jL.o hxc)
   have e1 : (x == c) = false := by simpa using hxc
   clear hxc
   go_wp2_with fail
   go_roundw
   case rel => exact ⟨k + 1, by omega, by go_num, rK, by trivial⟩
   case measure => simp [intOf]; omega
  have HE : Hid (F = -1) := ak (by rw [<- HF.o]; exact tI fun j hj => hd.o j hj (by have := HN.o; omega))
  clear hd
  go_wp2_with fail
  go_returns
  exact ⟨aL HE.o.symm, rfl⟩
theorem AQ (x : It) (p : Nat) (c : Int) (w : World) (h : w.cell? ⟨p, 0, none⟩ = some (iv c)) :
  Calls Tryz.prog 75 #[x.val, (au p)] w fun e w' => e = .returned (.bool (x.cell == c)) /\ Below w.heap.size w w' := by
 obtain ⟨x0, x1, x2, x3, x4⟩ := x; have hb1 := av w (.cells #[iv x0, iv x1, iv x2, .bool x3, iv x4] 64); have h2 := (hb1.cell (aH h)).trans h; have HB := ak hb1; clear hb1; unfold It.val
 go_enter Tryz.func75, Tryz.ntmps75
 go_wp2_with fail
 go_returns
 exact ⟨rfl, HB.o⟩
set_option maxHeartbeats 1000000 in
theorem ER (A : Option Addr) (l : List It) (cap p : Nat) (c : Int) (w : World) (h : Items w A l) (hp : w.cell? ⟨p, 0, none⟩ = some (iv c)) (hl : l.length <= 1000000) :
  Calls Tryz.prog 74 #[.slice A l.length cap, .func (.func 75) #[] #[(au p)]] w fun e w' => e = .returned (iv (iU l c)) /\ Below w.heap.size w w' := by
 have HH := ak h; have HP := ak hp; obtain ⟨F, hF⟩ := ah (iU l c); have HF := ak hF; rw [hF]; obtain ⟨n, hn⟩ := ah l.length; have HN := ak hn; rw [hn] at hl ⊢; clear h hF hn hp
 go_enter Tryz.func74, Tryz.ntmps74
 go_wp2_with fail
 go_loopw [5, 8] (fun _ i wr => ∃ k : Nat, k <= n /\ i = iv (k : Int) /\ Hid (∀ j (hj : j < l.length), j < k -> l[j].cell ≠ c) /\ Hid (Below w.heap.size w wr)) (fun _ i _ => n - (intOf i).toNat)
 case atStart => exact ⟨0, Nat.zero_le _, rfl, ak (fun j _ hj => absurd hj (by omega)), ak (Below.refl _ _)⟩
 case round =>
  obtain ⟨k, hk, rfl, hd, HB⟩ := hrel
  by_cases hlt : k < n
  ·have hlt' : k < l.length := by have := HN.o; omega
   obtain ⟨b, off, hA, VB⟩ := HH.o k hlt'; subst hA; have hit := VB.later HB.o; have c0 := hit.cell; have c1 := hit.version; have c2 := hit.value; have c3 := hit.write; have c4 := hit.new; have jL : Hid (l[k].cell ≠ c -> ∀ j (hj : j < l.length), j < k + 1 -> l[j].cell ≠ c) := ak (fun h0 j hj hjk => by
    by_cases e : j = k
    ·subst e; exact h0
    exact hd.o j hj (by omega))
   have HE : Hid (l[k].cell = c -> F = (k : Int)) := ak (fun h1 => by rw [<- HF.o]; exact xW hlt' (fun j hj => hd.o j (by omega) hj) h1); obtain ⟨x, hx⟩ := ah (l[k]); rw [hx] at c0 c1 c2 c3 c4 jL HE; have HC := ak (AQ x p c wr ((HB.o.cell (aH HP.o)).trans HP.o)); unfold It.val at HC; clear hit VB hx hlt'
   go_wp2_with fail
   refine HC.o.mono ?_; rintro e w2 ⟨rfl, hb2⟩; have bZ := ak (HB.o.trans (hb2.mono HB.o.size)); clear hb2 c0 c1 c2 c3 c4
   by_cases hxc : x.cell = c
   ·have rJ := ak (HE.o hxc)
    have e1 : (x.cell == c) = true := by simpa using hxc
    rw [e1]; clear hxc e1
    go_wp2_with fail
    go_returns
    exact ⟨aL rJ.o.symm, bZ.o⟩
   have rK := ak (jL.o hxc)
   have e1 : (x.cell == c) = false := by simpa using hxc
   rw [e1]; clear hxc e1
   go_wp2_with fail
   go_roundw
   case rel => exact ⟨k + 1, by omega, by go_num, rK, bZ⟩
   case measure => simp [intOf]; omega
  have HE : Hid (F = -1) := ak (by rw [<- HF.o]; exact tI fun j hj => hd.o j hj (by have := HN.o; omega))
  clear hd
  go_wp2_with fail
  go_returns
  exact ⟨aL HE.o.symm, HB.o⟩
theorem IC (A : Option Addr) (l : List It) (cap : Nat) (c : Int) (w : World) (h : Items w A l) (hl : l.length <= 1000000) :
  Calls Tryz.prog 39 #[.slice A l.length cap, iv c] w fun e w' => e = .returned (iv (iU l c)) /\ Below w.heap.size w w' := by
 have hb1 := av w (.cells #[iv c] 3); have HB := ak hb1; have HC := ak (ER A l cap w.heap.size c (w.alloc (.cells #[iv c] 3)) (h.later hb1) ((aB w 3 [iv c] _ rfl).cell (j := 0) rfl) hl); obtain ⟨n, hn⟩ := ah l.length; rw [hn] at HC ⊢; clear hb1 hn h hl
 go_enter Tryz.func39, Tryz.ntmps39
 go_wp2_with fail
 refine HC.o.mono ?_; rintro e w2 ⟨rfl, hb2⟩; have bZ := ak (HB.o.trans (hb2.mono HB.o.size)); clear hb2
 go_wp2_with fail
 go_returns
 exact ⟨rfl, bZ.o⟩
end Go.Proofs.YtdkchpiinelmiaaGreat.fN
namespace Go.Proofs.YtdkchpiinelmiaaGreat.Led
set_option maxRecDepth 100000
open Go.RowKit Go.Deep Mem fN Rec
def St.obj (s : St) (y : Sy) : Obj := .cells #[.int .i64 s.node, .int .i64 s.nodes, .int .i64 s.cells, .int .i64 s.epoch, .slice y.P s.places.length y.p, .slice y.Q s.ay.length y.q, .slice y.D s.dec.length y.d, .slice y.C s.com.length y.c] 32
theorem kT (s : St) (y : Sy) (w : World) : Cells (w.alloc (s.obj y)) w.heap.size 32 (s.vl y) := aB w _ _ _ rfl
theorem ig {w : World} {A : Option Addr} {l : List Pl} (h : Sl w A 5 (l.map Pl.vals)) {k : Nat} (hk : k < l.length) : ∃ b off, A = some ⟨b, off, none⟩ /\ w.cell? ⟨b, off + k * 5, none⟩ = some (iv l[k].status) /\ w.cell? ⟨b, off + k * 5 + 1, none⟩ = some (iv l[k].hop) /\ w.cell? ⟨b, off + k * 5 + 2, none⟩ = some (iv l[k].to) /\ w.cell? ⟨b, off + k * 5 + 3, none⟩ = some (iv l[k].version) /\ w.cell? ⟨b, off + k * 5 + 4, none⟩ = some (iv l[k].value) := by
 obtain ⟨b, off, e, hr⟩ := h k (by rw [List.length_map]; exact hk); rw [List.getElem_map] at hr; exact ⟨b, off, e, hr 0 _ rfl, hr 1 _ rfl, hr 2 _ rfl, hr 3 _ rfl, hr 4 _ rfl⟩
theorem kB (s : St) {k : Nat} (hk : k < s.places.length) : cw s (k : Int) = s.places[k] := by
 unfold cw; rw [Int.toNat_natCast, List.getElem?_eq_getElem hk]
 rfl
set_option maxHeartbeats 400000 in
theorem jG (s : St) (y : Sy) (c : Int) (w : World) (h : cL w s y) :
  Calls Tryz.prog 13 #[s.val y, iv c] w fun e w' => e = .returned (.bool (owns s c)) /\ Below w.heap.size w w' := by
 have hb := av w (s.obj y); have HX := ak (kT s y w); have HC := ak (fF s y c (w.alloc (s.obj y))); have HB := ak hb; unfold owns
 cases hh : bp s c with
 | false =>
  rw [hh] at HC; rw [Bool.false_and]; clear h hb hh; unfold St.val at HC ⊢
  go_enter Tryz.func13, Tryz.ntmps13
  go_wp2_with (refine aD rfl 32 _ rfl w.heap.size _ rfl rfl HX.o Tryz.underlying32 rfl (by kernel_rfl) ?_)
  refine HC.o.mono ?_; rintro e w2 ⟨rfl, hb2⟩; have bZ := ak (HB.o.trans (hb2.mono HB.o.size)); clear hb2
  go_wp2_with fail
  go_returns
  exact ⟨rfl, bZ.o⟩
 | true =>
  rw [hh] at HC; obtain ⟨h0, h1⟩ := (iW s c).1 hh; obtain ⟨k, rfl⟩ := Int.eq_ofNat_of_zero_le h0; have hk : k < s.places.length := by omega
  obtain ⟨b, off, hA, hp⟩ := ig h.places hk; rw [kB s hk, Bool.true_and]; have HP := ak hp.1; have HA := ak hA; clear h hb hh h0 h1 hp hA; unfold St.val at HC ⊢
  go_enter Tryz.func13, Tryz.ntmps13
  go_wp2_with (refine aD rfl 32 _ rfl w.heap.size _ rfl rfl HX.o Tryz.underlying32 rfl (by kernel_rfl) ?_)
  refine HC.o.mono ?_; rintro e w2 ⟨rfl, hb2⟩; have bZ := ak (HB.o.trans (hb2.mono HB.o.size)); have c4 := (HX.o.later hb2).cell (j := 4) rfl; rw [HA.o] at c4; have p0 := (bZ.o.cell (aH HP.o)).trans HP.o; clear hb2
  go_wp2_with fail
  go_returns
  exact ⟨rfl, bZ.o⟩
def ku (c : Int) (p : Pr) : Bool := decide (0 <= iU p.items c)
def locked (s : St) (c : Int) : Bool := bp s c && s.ay.any (ku c)
theorem TR (p : Pr) (y : Lay) (g : Nat) (c : Int) (w : World) (ht : Two w p.items p.nodes y) (hl : p.items.length <= 1000000) (hc : w.cell? ⟨g, 0, none⟩ = some (iv c)) :
  Calls Tryz.prog 38 #[.agg (p.vals y).toArray, (au g)] w fun e w' => e = .returned (.bool (ku c p)) /\ Below w.heap.size w w' := by
 have hb := av w (.cells #[iv p.tid.node, iv p.tid.epoch, iv p.tid.seq, .slice y.A p.items.length y.c, .slice y.B p.nodes.length y.d] 78); have HC := ak (IC y.A p.items y.c c _ (ht.1.later hb) hl); have hc2 := (hb.cell (aH hc)).trans hc; have HB := ak hb; unfold ku Pr.vals; clear ht hb hl
 go_enter Tryz.func38, Tryz.ntmps38
 go_wp2_with fail
 refine HC.o.mono ?_; rintro e w2 ⟨rfl, hb2⟩; have bZ := ak (HB.o.trans (hb2.mono HB.o.size)); clear hb2
 go_wp2_with fail
 go_returns
 exact ⟨rfl, bZ.o⟩
set_option maxHeartbeats 400000 in
theorem j6 (s : St) (y : Sy) (c : Int) (w : World) (h : cL w s y) (hl : s.ay.length <= 1000000 /\ ∀ p ∈ s.ay, p.items.length <= 1000000) :
  Calls Tryz.prog 15 #[s.val y, iv c] w fun e w' => e = .returned (.bool (locked s c)) /\ Below w.heap.size w w' := by
 have hb1 := av w (s.obj y); have hb2 := hb1.alloc hb1.size (.cells #[iv c] 3); have HX := ak ((kT s y w).later (av _ (.cells #[iv c] 3))); have Ul : ((w.alloc (s.obj y)).alloc (.cells #[iv c] 3)).cell? ⟨w.heap.size + 1, 0, none⟩ = some (iv c) := by
  have hq := (aB (w.alloc (s.obj y)) 3 [iv c] _ rfl).cell (j := 0) rfl; rw [World.size_alloc] at hq; exact hq
 have HCI := ak Ul; have HC := ak (fF s y c ((w.alloc (s.obj y)).alloc (.cells #[iv c] 3))); have HL : Hid ((List.zipWith Pr.vals s.ay y.ps).length = s.ay.length) := ak (by rw [List.length_zipWith, h.ps]; omega); have Tw := ak (fun w2 (hw : Below w.heap.size w w2) (hcw : w2.cell? ⟨w.heap.size + 1, 0, none⟩ = some (iv c)) => IE y.Q (List.zipWith Pr.vals s.ay y.ps) (s.ay.map (ku c)) y.q ((au (w.heap.size + 1))) w2 (h.ay.later hw) (fun k hk => by rw [List.getElem_zipWith]; rfl) (by rw [List.length_map, HL.o]) (by rw [HL.o]; exact hl.1) (fun k hk hk' w' kV => by
  rw [HL.o] at hk; have hk2 : k < y.ps.length := by rw [h.ps]; exact hk
  rw [List.getElem_zipWith, List.getElem_map]; exact TR s.ay[k] y.ps[k] (w.heap.size + 1) c w' (((h.pin k hk hk2).later hw).later kV) (hl.2 _ (List.getElem_mem hk)) ((kV.cell (aH hcw)).trans hcw)))
 have FH : Hid ((s.ay.map (ku c)).any (fun b => b) = s.ay.any (ku c)) := ak (by rw [List.any_map]; rfl); rw [HL.o, FH.o] at Tw; have HB := ak hb2; unfold locked
 cases hh : bp s c with
 | false =>
  rw [hh] at HC; rw [Bool.false_and]; clear h hb1 hb2 hh hl Ul Tw; unfold St.val at HC ⊢
  go_enter Tryz.func15, Tryz.ntmps15
  go_wp2_with (refine aD rfl 32 _ rfl w.heap.size _ rfl rfl HX.o Tryz.underlying32 rfl (by kernel_rfl) ?_)
  refine HC.o.mono ?_; rintro e w2 ⟨rfl, hb2⟩; have bZ := ak (HB.o.trans (hb2.mono HB.o.size)); clear hb2
  go_wp2_with fail
  go_returns
  exact ⟨rfl, bZ.o⟩
 | true =>
  rw [hh] at HC; rw [Bool.true_and]; clear h hb1 hb2 hh hl Ul; unfold St.val at HC ⊢
  go_enter Tryz.func15, Tryz.ntmps15
  go_wp2_with (refine aD rfl 32 _ rfl w.heap.size _ rfl rfl HX.o Tryz.underlying32 rfl (by kernel_rfl) ?_)
  refine HC.o.mono ?_; rintro e w2 ⟨rfl, hb2⟩; have bZ := ak (HB.o.trans (hb2.mono HB.o.size)); have c5 := (HX.o.later hb2).cell (j := 5) rfl; have Vx := ak (Tw.o w2 bZ.o ((hb2.cell (aH HCI.o)).trans HCI.o)); clear hb2
  go_wp2_with fail
  refine Vx.o.mono ?_; rintro e w3 ⟨rfl, hb3⟩; have mW := ak (bZ.o.trans (hb3.mono bZ.o.size)); clear hb3
  go_wp2_with fail
  go_returns
  exact ⟨rfl, mW.o⟩
def above (s : St) (l : List Int) : Bool := l.any fun n => decide (s.nodes < n)
theorem Kr (n m : Int) (g : Nat) (w : World) (hc : w.cell? ⟨g, 1, none⟩ = some (iv m)) :
  Calls Tryz.prog 104 #[iv n, (au g)] w fun e w' => e = .returned (.bool (decide (m < n))) /\ Below w.heap.size w w' := by
 go_enter Tryz.func104, Tryz.ntmps104
 go_wp2_with fail
 go_returns
 exact ⟨rfl, Below.refl _ _⟩
theorem fH (s : St) (y : Sy) (A : Option Addr) (l : List Int) (cap : Nat) (w : World) (h : gZ w A l) (hl : l.length <= 1000000) :
  Calls Tryz.prog 89 #[s.val y, .slice A l.length cap] w fun e w' => e = .returned (.bool (above s l)) /\ Below w.heap.size w w' := by
 have hb := av w (s.obj y); have hx := kT s y w; have HC := ak (E8 A l (l.map fun n => decide (s.nodes < n)) cap ((au w.heap.size)) _ (h.later hb) (by rw [List.length_map]) hl (fun k hk hk' w' kV => by
  rw [List.getElem_map]; exact Kr l[k] s.nodes w.heap.size w' ((hx.later kV).cell (j := 1) rfl)))
 have FH : Hid ((l.map fun n => decide (s.nodes < n)).any (fun b => b) = above s l) := ak (by rw [List.any_map]; rfl); rw [FH.o] at HC; have HB := ak hb; obtain ⟨n, hn⟩ := ah l.length; rw [hn] at HC ⊢; clear h hb hl hx hn; unfold St.val
 go_enter Tryz.func89, Tryz.ntmps89
 go_wp2_with fail
 refine HC.o.mono ?_; rintro e w2 ⟨rfl, hb2⟩; have bZ := ak (HB.o.trans (hb2.mono HB.o.size)); clear hb2
 go_wp2_with fail
 go_returns
 exact ⟨rfl, bZ.o⟩
def home (c n : Int) : Int := if n < 1 \/ c < 0 then 0 else c % n + 1
theorem yj (c n : Int) (w : World) (hn : n <= 1000000000) : Calls Tryz.prog 17 #[iv c, iv n] w fun e w' => e = .returned (iv (home c n)) /\ w = w' := by
 unfold home
 by_cases h1 : n < 1
 ·rw [if_pos (Or.inl h1)]
  go_enter Tryz.func17, Tryz.ntmps17
  go_wp2_with fail
  go_returns
  exact ⟨rfl, rfl⟩
 by_cases h2 : c < 0
 ·rw [if_pos (Or.inr h2)]
  go_enter Tryz.func17, Tryz.ntmps17
  go_wp2_with fail
  go_returns
  exact ⟨rfl, rfl⟩
 rw [if_neg (by omega)]
 have h3 : 0 <= c % n := Int.emod_nonneg _ (by omega); have h4 : c % n < n := Int.emod_lt_of_pos _ (by omega)
 go_enter Tryz.func17, Tryz.ntmps17
 go_wp2_with fail
 go_returns
 exact ⟨rfl, rfl⟩
def known (s : St) (u : cT) : Bool := decide (0 <= bQ s u) || decide (0 <= dJ s u)
set_option maxHeartbeats 400000 in
theorem uY (s : St) (y : Sy) (u : cT) (w : World) (h : cL w s y) (h1 : s.ay.length <= 1000000) (h2 : s.dec.length <= 1000000) :
  Calls Tryz.prog 90 #[s.val y, u.val] w fun e w' => e = .returned (.bool (known s u)) /\ Below w.heap.size w w' := by
 have hb1 := av w (s.obj y); have hb2 := hb1.alloc hb1.size (.cells #[iv u.node, iv u.epoch, iv u.seq] 47); have HX := ak ((kT s y w).later (av _ (.cells #[iv u.node, iv u.epoch, iv u.seq] 47))); have hu := aB (w.alloc (s.obj y)) 47 [iv u.node, iv u.epoch, iv u.seq] _ rfl; rw [World.size_alloc] at hu; have HU := ak hu; have HC := ak (qT s y u _ (h.later hb2) h1); have HV := ak h; have HD := ak (fun w2 (hw : Below w.heap.size w w2) => sZ s y u w2 (HV.o.later hw) h2); have HB := ak hb2; unfold known; obtain ⟨F1, hF1⟩ := ah (bQ s u); obtain ⟨F2, hF2⟩ := ah (dJ s u); rw [hF1] at HC ⊢; rw [hF2] at HD ⊢; clear hb1 hb2 h h1 h2 hu hF1 hF2; unfold St.val cT.val at HC HD ⊢
 by_cases h0 : 0 <= F1
 ·rw [decide_eq_true h0, Bool.true_or]
  go_enter Tryz.func90, Tryz.ntmps90
  go_wp2_with (refine aD rfl 32 _ rfl w.heap.size _ rfl rfl HX.o Tryz.underlying32 rfl (by kernel_rfl) ?_)
  refine HC.o.mono ?_; rintro e w2 ⟨rfl, hb2⟩; have bZ := ak (HB.o.trans (hb2.mono HB.o.size)); clear hb2
  go_wp2_with fail
  go_returns
  exact ⟨rfl, bZ.o⟩
 have HN0 := ak h0
 rw [decide_eq_false h0, Bool.false_or]
 go_enter Tryz.func90, Tryz.ntmps90
 go_wp2_with (refine aD rfl 32 _ rfl w.heap.size _ rfl rfl HX.o Tryz.underlying32 rfl (by kernel_rfl) ?_)
 refine HC.o.mono ?_; rintro e w2 ⟨rfl, hb2⟩; have bZ := ak (HB.o.trans (hb2.mono HB.o.size)); have Yy := ak (HX.o.later hb2); have hu2 := HU.o.later hb2; obtain ⟨u0, u1, u2⟩ := hu2.q3; have jL := ak (HD.o w2 bZ.o); have hz := Yy.o; obtain ⟨z0, z1, z2, z3, z4, z5, z6, z7⟩ := hz.q8; clear hb2 hu2 hz
 go_wp2_with fail
 refine jL.o.mono ?_; rintro e w3 ⟨rfl, hb3⟩; have mW := ak (bZ.o.trans (hb3.mono bZ.o.size)); clear hb3
 go_wp2_with fail
 go_returns
 exact ⟨ret_val (congrArg Value.bool (by rw [decide_eq_false (Int.not_le.2 HN0.o), Bool.false_or])), mW.o⟩
def jB (s : St) (l : List It) : Bool := l.all fun x => bp s x.cell
def TY (s : St) (y : Sy) (x : It) (b g : Nat) : Nat -> Value -> World -> Prop := N.tb [.inl (.pointer (some ⟨b, 0, none⟩)), .inl (.pointer (some ⟨b, 0, none⟩)), .inl (s.val y), .inl (.pointer (some ⟨g, 0, none⟩)), .inl (.int .i64 x.cell), .inl (.bool (bp s x.cell)), .inl (.bool (!bp s x.cell)), .inl (.bool (!bp s x.cell))]
theorem hasEq (s : St) (y : Sy) (x : It) (b pp : Nat) (w : World) (hs : Cells w b 32 (s.vals y)) (hp : w.cell? ⟨pp, 0, none⟩ = some ((au b))) :
  Calls Tryz.prog 106 #[x.val, (au pp)] w fun e w' => e = .returned (.bool (!bp s x.cell)) /\ Below w.heap.size w w' := by
 obtain ⟨wb, hwb⟩ := aj (w.alloc (.cells #[iv x.cell, iv x.version, iv x.value, .bool x.write, iv x.new] 64)); have hb : Below w.heap.size w wb := by rw [hwb]; exact av _ _
 have HP := ak (fun wi (h : Below wb.heap.size wb wi) => (h.cell (aH ((hb.cell (aH hp)).trans hp))).trans ((hb.cell (aH hp)).trans hp)); have HS := ak (fun wi (h : Below wb.heap.size wb wi) => (hs.later hb).later h); have HX := ak (fun wi (h : Below wb.heap.size wb wi) => ((show Cells wb w.heap.size 64 x.vals by rw [hwb]; exact aB _ _ _ _ rfl).later h).cell (j := 0) rfl)
 have HB := ak hb; unfold It.val; clear hs hp hb
 go_enter Tryz.func106, Tryz.ntmps106
 go_wp2_with fail
 rw [<- hwb]; refine N.rb 7 [7] (TY s y x b w.heap.size) wb (fun V => [(some 4, V 0), (some 5, V 1), (some 6, V 2), (some 7, V 3), (some 8, V 4), (some 9, V 5), (some 10, V 6), (some 3, V 7)]) ?_ ?_
 ·intro i o ho
  have hi : i < 8 := (Array.getElem?_eq_some_iff.1 ho).1; rcases i with _ | _ | _ | _ | _ | _ | _ | _ | i
  rotate_right
  ·omega
  all_goals obtain rfl := Option.some.inj ho
  all_goals intro ρ wi hE hI hs hd
  all_goals try dsimp only at hI
  ·have e1 : ρ (.tmp 1) = (au pp) := hs 1; have x0 := HP.o wi hI; exact N.gw hI
  ·obtain ⟨_, rfl, e4⟩ := hd 0 4; have x0 := HP.o wi hI; exact N.gw hI
  ·obtain ⟨_, rfl, e5⟩ := hd 1 5
   exact N.Gives.value (v := s.val y) (w' := wi) (by have hz := HS.o wi hI; unfold St.vals at hz; obtain ⟨z0, z1, z2, z3, z4, z5, z6, z7⟩ := hz.q8; clear hz; unfold St.val; go_simp) (N.bA.same hI rfl)
  ·have e2 : ρ (.tmp 2) = (au w.heap.size) := hs 2; exact N.gw hI
  ·obtain ⟨_, rfl, e7⟩ := hd 3 7; have hx := HX.o wi hI; exact N.gw hI
  ·obtain ⟨_, rfl, e6⟩ := hd 2 6; obtain ⟨_, rfl, e8⟩ := hd 4 8; have hf := hE.func
   refine N.Gives.call (f := 36) (args := #[s.val y, iv x.cell]) (w' := wi) (by go_simp) ?_; refine (fF s y x.cell wi).mono ?_; rintro e w'' ⟨rfl, hbb⟩; exact ⟨_, rfl, ⟨rfl, hI.trans (hbb.mono hI.size), fun j u _ _ h => N.tz h⟩⟩
  ·obtain ⟨_, rfl, e9⟩ := hd 5 9; exact N.gw hI
  obtain ⟨_, rfl, e10⟩ := hd 6 10; exact N.gw hI
 intro V wa hV hI
 have jr : V 7 = .bool (!bp s x.cell) := hV 7 (by decide) rfl; simp only [N.aP, List.foldl_cons, List.foldl_nil, Act.put, List.setIfInBounds_toArray, List.set_cons_succ, List.set_cons_zero, jr]; replace hI : (fun a => Below wb.heap.size wb a) wa := hI; clear hV jr
 go_wp2_with fail
 go_returns
 exact ⟨rfl, HB.o.trans (hI.mono HB.o.size)⟩
theorem j4 (s : St) (y : Sy) (A : Option Addr) (l : List It) (cap b : Nat) (w : World) (h : Items w A l) (hs : Cells w b 32 (s.vals y)) (hl : l.length <= 1000000) :
  Calls Tryz.prog 91 #[(au b), .slice A l.length cap] w fun e w' => e = .returned (.bool (jB s l)) /\ Below w.heap.size w w' := by
 have hb := av w (.cells #[(au b)] 110); have hp := (aB w 110 [(au b)] _ rfl).cell (j := 0) rfl; have HC := ak (Kl A (l.map It.vals) (l.map fun x => !bp s x.cell) cap ((au w.heap.size)) _ (xO (h.later hb)) (fun k hk => by rw [List.getElem_map]; rfl) (by rw [List.length_map, List.length_map]) (by rw [List.length_map]; exact hl) (fun k hk hk' w' kV => by
  have hk3 : k < l.length := by simpa using hk
  rw [List.getElem_map, List.getElem_map]; exact hasEq s y l[k] b w.heap.size w' ((hs.later hb).later kV) ((kV.cell (aH hp)).trans hp)))
 have FH : Hid ((!((l.map fun x => !bp s x.cell).any (fun b => b))) = jB s l) := ak (by
  unfold jB; rw [List.any_map, List.all_eq_not_any_not]
  rfl)
 rw [List.length_map] at HC; have HB := ak hb; obtain ⟨n, hn⟩ := ah l.length; rw [<- FH.o]; obtain ⟨F, hF⟩ := ah ((l.map fun x => !bp s x.cell).any (fun b => b)); rw [hn, hF] at HC; rw [hn, hF]; clear h hb hl hp hn hF FH hs
 go_enter Tryz.func91, Tryz.ntmps91
 go_wp2_with fail
 refine HC.o.mono ?_; rintro e w2 ⟨rfl, hb2⟩; have bZ := ak (HB.o.trans (hb2.mono HB.o.size)); clear hb2
 go_wp2_with fail
 go_returns
 exact ⟨rfl, bZ.o⟩
set_option maxHeartbeats 1000000 in
theorem EP (A : Option Addr) (vs : List Int) (cap : Nat) (c : Int) (w : World) (h : gZ w A vs) (hl : vs.length <= 1000000) :
  Calls Tryz.prog 107 #[.slice A vs.length cap, iv c] w fun e w' => e = .returned (iv (dV (vs.map fun x => decide (x = c)))) /\ w = w' := by
 have HH := ak h; obtain ⟨F, hF⟩ : ∃ F, dV (vs.map fun x => decide (x = c)) = F := ⟨_, rfl⟩; have HF := ak hF; rw [hF]; obtain ⟨n, hn⟩ := ah vs.length; have HN := ak hn; rw [hn] at hl ⊢; clear h hF hn
 go_enter Tryz.func107, Tryz.ntmps107
 go_wp2_with fail
 go_loop [5, 8] (fun _ i => ∃ k : Nat, k <= n /\ i = iv (k : Int) /\ Hid (∀ j (hj : j < vs.length), j < k -> vs[j] ≠ c)) (fun _ i => n - (intOf i).toNat)
 case atStart => exact ⟨0, Nat.zero_le _, rfl, ak (fun j _ hj => absurd hj (by omega))⟩
 case round =>
  obtain ⟨k, hk, rfl, hd⟩ := hrel
  by_cases hlt : k < n
  ·have hlt' : k < vs.length := by have := HN.o; omega
   obtain ⟨b, off, hA, c0⟩ := HH.o k hlt'; subst hA; have jL : Hid (vs[k] ≠ c -> ∀ j (hj : j < vs.length), j < k + 1 -> vs[j] ≠ c) := ak (fun h0 j hj hjk => by
    by_cases e : j = k
    ·subst e; exact h0
    exact hd.o j hj (by omega))
   have HE : Hid (vs[k] = c -> F = (k : Int)) := ak (fun h1 => by
    rw [<- HF.o]; exact gW (by rw [List.length_map]; exact hlt') (fun j hj => by rw [List.getElem_map]; exact decide_eq_false (hd.o j (by omega) hj)) (by rw [List.getElem_map]; exact decide_eq_true h1))
   obtain ⟨x, hx⟩ := ah (vs[k]); rw [hx] at c0 jL HE; clear hx hlt'
   by_cases hxc : x = c
   ·have rJ := ak (HE.o hxc)
    subst hxc
    go_wp2_with fail
    go_returns
    exact ⟨aL rJ.o.symm, rfl⟩
   have rK := ak (jL.o hxc)
   have ad3 : ¬ c = x := fun e => hxc e.symm
   go_wp2_with fail
   go_round
   case rel => exact ⟨k + 1, by omega, by go_num, rK⟩
   case measure => simp [intOf]; omega
  have HE : Hid (F = -1) := ak (by rw [<- HF.o]; exact eP fun j hj => by rw [List.getElem_map]; rw [List.length_map] at hj; exact decide_eq_false (hd.o j hj (by have := HN.o; omega)))
  clear hd
  go_wp2_with fail
  go_returns
  exact ⟨aL HE.o.symm, rfl⟩
theorem wE (A : Option Addr) (vs : List Int) (cap : Nat) (c : Int) (w : World) (h : gZ w A vs) (hl : vs.length <= 1000000) :
  Calls Tryz.prog 92 #[.slice A vs.length cap, iv c] w fun e w' => e = .returned (.bool (vs.any fun x => decide (x = c))) /\ w = w' := by
 have HC := ak (EP A vs cap c w h hl); have HB := ak (ij (vs.map fun x => decide (x = c))); have FH : Hid ((vs.map fun x => decide (x = c)).any (fun b => b) = vs.any fun x => decide (x = c)) := ak (by rw [List.any_map]; rfl); rw [<- FH.o, <- HB.o]; obtain ⟨n, hn⟩ := ah vs.length; obtain ⟨F, hF⟩ : ∃ F, dV (vs.map fun x => decide (x = c)) = F := ⟨_, rfl⟩; rw [hn, hF] at HC; rw [hn, hF]; clear h hl hn hF HB FH
 go_enter Tryz.func92, Tryz.ntmps92
 go_wp2_with fail
 refine HC.o.mono ?_; rintro e w2 ⟨rfl, rfl⟩
 go_wp2_with fail
 go_returns
 exact ⟨rfl, rfl⟩
def cC (s : St) (x : It) : Int := if owns s x.cell = false then 8 else if locked s x.cell = true then 12 else if (cw s x.cell).version ≠ x.version then 13 else 0
theorem jD {s : St} {c : Int} (h : owns s c = true) : bp s c = true := by
 unfold owns at h; exact (Bool.and_eq_true _ _ ▸ h).1
def TW (s : St) (y : Sy) (x : It) (b g : Nat) : Nat -> Value -> World -> Prop := N.tb [.inl (.pointer (some ⟨b, 0, none⟩)), .inl (.pointer (some ⟨b, 0, none⟩)), .inl (s.val y), .inl (.pointer (some ⟨g, 0, none⟩)), .inl (.int .i64 x.cell), .inl (.bool (owns s x.cell)), .inl (.bool (!owns s x.cell)), .inl (.bool (!owns s x.cell))]
def TV (s : St) (y : Sy) (x : It) (b g : Nat) : Nat -> Value -> World -> Prop := N.tb [.inl (.pointer (some ⟨b, 0, none⟩)), .inl (.pointer (some ⟨b, 0, none⟩)), .inl (s.val y), .inl (.pointer (some ⟨g, 0, none⟩)), .inl (.int .i64 x.cell), .inl (.bool (locked s x.cell)), .inl (.bool (locked s x.cell))]
set_option maxHeartbeats 1000000 in
theorem wo (s : St) (y : Sy) (x : It) (b : Nat) (w : World) (hv : cL w s y) (hs : Cells w b 32 (s.vals y)) (hl : s.ay.length <= 1000000 /\ ∀ p ∈ s.ay, p.items.length <= 1000000) :
  Calls Tryz.prog 93 #[(au b), x.val] w fun e w' => e = .returned (iv (cC s x)) /\ Below w.heap.size w w' := by
 obtain ⟨wb, hwb⟩ := aj (w.alloc (.cells #[iv x.cell, iv x.version, iv x.value, .bool x.write, iv x.new] 64)); have hb : Below w.heap.size w wb := by rw [hwb]; exact av _ _
 have hxc : Cells wb w.heap.size 64 [iv x.cell, iv x.version, iv x.value, .bool x.write, iv x.new] := by rw [hwb]; exact aB _ _ _ _ rfl
 have HXC := ak hxc; have KE := ak (hs.later hb); have HS := ak (fun wi (h : Below wb.heap.size wb wi) => (hs.later hb).later h); have HX := ak (fun wi (h : Below wb.heap.size wb wi) => (hxc.later h).cell (j := 0) rfl); have HV := ak (hv.later hb); have sj := ak hl; have HB := ak hb; have lC : Hid (cC s x = if owns s x.cell = false then 8 else if locked s x.cell = true then 12 else if (cw s x.cell).version ≠ x.version then 13 else 0) := ak rfl; obtain ⟨E, hE⟩ := ah (cC s x); rw [hE] at lC ⊢; unfold It.val; clear hs hb hxc hv hl hE
 go_enter Tryz.func93, Tryz.ntmps93
 go_wp2_with fail
 rw [<- hwb]; refine N.rb 7 [7] (TW s y x b w.heap.size) wb (fun V => [(some 6, V 0), (some 7, V 1), (some 8, V 2), (some 9, V 3), (some 10, V 4), (some 11, V 5), (some 12, V 6), (some 5, V 7)]) ?_ ?_
 ·intro i o ho
  have hi : i < 8 := (Array.getElem?_eq_some_iff.1 ho).1; rcases i with _ | _ | _ | _ | _ | _ | _ | _ | i
  rotate_right
  ·omega
  all_goals obtain rfl := Option.some.inj ho
  all_goals intro ρ wi hE hI hs hd
  all_goals try dsimp only at hI
  ·have e0 : ρ (.tmp 0) = (au b) := hs 0; exact N.gw hI
  ·obtain ⟨_, rfl, e6⟩ := hd 0 6; exact N.gw hI
  ·obtain ⟨_, rfl, e7⟩ := hd 1 7
   exact N.Gives.value (v := s.val y) (w' := wi) (by have hz := HS.o wi hI; unfold St.vals at hz; obtain ⟨z0, z1, z2, z3, z4, z5, z6, z7⟩ := hz.q8; clear hz; unfold St.val; go_simp) (N.bA.same hI rfl)
  ·have e3 : ρ (.tmp 3) = (au w.heap.size) := hs 3; exact N.gw hI
  ·obtain ⟨_, rfl, e9⟩ := hd 3 9; have hx := HX.o wi hI; exact N.gw hI
  ·obtain ⟨_, rfl, e8⟩ := hd 2 8; obtain ⟨_, rfl, e10⟩ := hd 4 10; have hf := hE.func
   refine N.Gives.call (f := 13) (args := #[s.val y, iv x.cell]) (w' := wi) (by go_simp) ?_; refine (jG s y x.cell wi (HV.o.later hI)).mono ?_; rintro e w'' ⟨rfl, hbb⟩; exact ⟨_, rfl, ⟨rfl, hI.trans (hbb.mono hI.size), fun j u _ _ h => N.tz h⟩⟩
  ·obtain ⟨_, rfl, e11⟩ := hd 5 11; exact N.gw hI
  obtain ⟨_, rfl, e12⟩ := hd 6 12; exact N.gw hI
 intro V wa hV hI
 have jr : V 7 = .bool (!owns s x.cell) := hV 7 (by decide) rfl; simp only [N.aP, List.foldl_cons, List.foldl_nil, Act.put, List.setIfInBounds_toArray, List.set_cons_succ, List.set_cons_zero, jr]; replace hI : (fun a => Below wb.heap.size wb a) wa := hI; clear hV jr; have gG := ak (HB.o.trans (hI.mono HB.o.size)); have Xt := ak hI; clear hI
 cases ho : owns s x.cell with
 | false =>
  rw [ho] at lC; have Tt : Hid (E = 8) := ak lC.o; clear lC ho
  go_wp2_with fail
  go_returns
  exact ⟨aL Tt.o.symm, gG.o⟩
 | true =>
  rw [ho, if_neg (by decide)] at lC; have HOW := ak ho; have Yy := ak (fun wi (h : Below wa.heap.size wa wi) => ((HXC.o.later Xt.o).later h).cell (j := 0) rfl); have Bo := ak (fun wi (h : Below wa.heap.size wa wi) => (KE.o.later Xt.o).later h); have KD := ak (HV.o.later Xt.o); clear ho
  go_wp2_with fail
  refine N.rb 6 [6] (TV s y x b w.heap.size) wa (fun V => [(some 14, V 0), (some 15, V 1), (some 16, V 2), (some 17, V 3), (some 18, V 4), (some 19, V 5), (some 13, V 6)]) ?_ ?_
  ·intro i o ho
   have hi : i < 7 := (Array.getElem?_eq_some_iff.1 ho).1; rcases i with _ | _ | _ | _ | _ | _ | _ | i
   rotate_right
   ·omega
   all_goals obtain rfl := Option.some.inj ho
   all_goals intro ρ wi hE hI hs hd
   all_goals try dsimp only at hI
   ·have e0 : ρ (.tmp 0) = (au b) := hs 0; exact N.gw hI
   ·obtain ⟨_, rfl, mZ⟩ := hd 0 14; exact N.gw hI
   ·obtain ⟨_, rfl, mY⟩ := hd 1 15
    exact N.Gives.value (v := s.val y) (w' := wi) (by have hz := Bo.o wi hI; unfold St.vals at hz; obtain ⟨z0, z1, z2, z3, z4, z5, z6, z7⟩ := hz.q8; clear hz; unfold St.val; go_simp) (N.bA.same hI rfl)
   ·have e3 : ρ (.tmp 3) = (au w.heap.size) := hs 3; exact N.gw hI
   ·obtain ⟨_, rfl, e17⟩ := hd 3 17; have hx := Yy.o wi hI; exact N.gw hI
   ·obtain ⟨_, rfl, e16⟩ := hd 2 16; obtain ⟨_, rfl, e18⟩ := hd 4 18; have hf := hE.func
    refine N.Gives.call (f := 15) (args := #[s.val y, iv x.cell]) (w' := wi) (by go_simp) ?_; refine (j6 s y x.cell wi (KD.o.later hI) sj.o).mono ?_; rintro e w'' ⟨rfl, hbb⟩; exact ⟨_, rfl, ⟨rfl, hI.trans (hbb.mono hI.size), fun j u _ _ h => N.tz h⟩⟩
   obtain ⟨_, rfl, e19⟩ := hd 5 19; exact N.gw hI
  intro V wc hV hI
  have qU : V 6 = .bool (locked s x.cell) := hV 6 (by decide) rfl; simp only [N.aP, List.foldl_cons, List.foldl_nil, Act.put, List.setIfInBounds_toArray, List.set_cons_succ, List.set_cons_zero, qU]; replace hI : (fun a => Below wa.heap.size wa a) wc := hI; clear hV qU; have wX := ak (gG.o.trans (hI.mono gG.o.size)); have Ur := ak hI; clear hI
  cases hk : locked s x.cell with
  | true =>
   rw [hk, if_pos rfl] at lC; have Tt : Hid (E = 12) := ak lC.o; clear lC hk
   go_wp2_with fail
   go_returns
   exact ⟨aL Tt.o.symm, wX.o⟩
  | false =>
   rw [hk, if_neg (by decide)] at lC; obtain ⟨h0, h1⟩ := (iW s x.cell).1 (jD HOW.o); obtain ⟨k, hkk⟩ := Int.eq_ofNat_of_zero_le h0; have hkl : k < s.places.length := by omega
   obtain ⟨pb, off, hA, hp⟩ := ig (KD.o.later Ur.o).places hkl; have hz := Bo.o wc Ur.o; unfold St.vals at hz; have z4 := hz.cell (j := 4) rfl; rw [hA] at z4; have hq := (HXC.o.later Xt.o).later Ur.o; obtain ⟨q0, q1⟩ := hq.q2; have p3 := hp.2.2.2.1; rw [hkk, kB s hkl] at lC; rw [hkk] at q0; obtain ⟨pv, hpv⟩ := ah (s.places[k].version); rw [hpv] at p3 lC; clear hz hq hp hk h0 h1 hkk hpv hA
   by_cases hne : pv = x.version
   ·rw [if_neg (by simp [hne])] at lC
    go_wp2_with fail
    go_quiet (fail)
    go_wp2_with fail
    go_returns
    exact ⟨aL lC.o.symm, below_drewN wX.o nq⟩
   rw [if_pos hne] at lC
   go_wp2_with fail
   go_quiet (fail)
   go_wp2_with fail
   go_returns
   exact ⟨aL lC.o.symm, below_drewN wX.o nq⟩
