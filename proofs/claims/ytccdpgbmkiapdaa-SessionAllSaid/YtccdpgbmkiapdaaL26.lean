/-
  Layer 14: two sessions at a time; the document's example.
  Conditions: none.
-/
import Derived.Test.YtccdpgbmkiapdaaL24
namespace Go.Proofs.Ytccdpgbmkiapdaa.Ses
set_option maxRecDepth 100000
open Go.RowKit Go.Deep Go.Proofs.Ytccdpgbmkiapdaa.Mem Go.Proofs.Ytccdpgbmkiapdaa.Win
section
variable {B B' sb : Nat} {F T : Nat → Prop} {w w' : World} {S S' : Sm}
theorem SAt.lt (h : SAt B F w sb S) : ∀ k, F k → k < w.heap.size := by
 obtain ⟨pb, As, cs, hx⟩ := h
 exact hx.lt
theorem SAt.low (h : SAt B F w sb S) : ∀ k, F k → B ≤ k := by
 obtain ⟨pb, As, cs, hx⟩ := h
 exact hx.low
/-- A session of a later call is one of an earlier call, too. -/
theorem SAt.up (hB : B ≤ B') (h : SAt B' F w sb S) : SAt B F w sb S := by
 obtain ⟨pb, As, cs, hx⟩ := h
 exact ⟨pb, As, cs, hx.cel, fun i hi => ⟨(hx.peer i hi).win, (hx.peer i hi).cel, own_up hB (hx.peer i hi).row, (hx.peer i hi).nA⟩, hx.apart, hx.fs, hx.fp, hx.fA, hx.sp, hx.sA, fun k e => Nat.le_trans hB (hx.low k e), hx.lt⟩
/-- Two sessions that share nothing. -/
structure Duo (B : Nat) (w : World) (a b : Nat) (SA SB : Sm) (FA FB : Nat → Prop) : Prop where
 one : SAt B FA w a SA
 two : SAt B FB w b SB
 far : ∀ k, FA k → FB k → False
theorem Duo.later {a b : Nat} {SA SB : Sm} {FA FB : Nat → Prop} (h : Duo B w a b SA SB FA FB) (hb : Below w.heap.size w w') : Duo B w' a b SA SB FA FB := ⟨h.one.later hb, h.two.later hb, h.far⟩
theorem Duo.stepA {a b : Nat} {SA SB : Sm} {FA FB FA' : Nat → Prop} (h : Duo B w a b SA SB FA FB) (hs : SStep B FA w a S' FA' w') : Duo B w' a b S' SB FA' FB :=
 ⟨hs.at', h.two.only hs.only fun k e e2 => h.far k e2 e, fun k e e2 => by
  rcases hs.new k e with e3 | e3
  ·exact h.far k e3 e2
  ·have := h.two.lt k e2
   omega⟩
theorem Duo.stepB {a b : Nat} {SA SB : Sm} {FA FB FB' : Nat → Prop} (h : Duo B w a b SA SB FA FB) (hs : SStep B FB w b S' FB' w') : Duo B w' a b SA S' FA FB' :=
 ⟨h.one.only hs.only h.far, hs.at', fun k e e2 => by
  rcases hs.new k e2 with e3 | e3
  ·exact h.far k e e3
  ·have := h.one.lt k e
   omega⟩
theorem SStep.below {F' : Nat → Prop} (h : SAt B F w sb S) (hs : SStep B F w sb S' F' w') (hB : B ≤ w.heap.size) : Below B w w' := hs.only.below hB h.low
/-- An envelope in a row of what goes out. -/
theorem OwnG.out {A : Option Addr} {n c k : Nat} {l : List Ot} {o : Ot} (h : OwnG 89 6 Ot.vals B w (.slice A n c) l) (hk : l[k]? = some o) : n = l.length ∧ ∃ g, A = some ⟨g, 0, none⟩ ∧ CellsO w g (k * 6) o.vals := by
 obtain ⟨hk1, hk2⟩ := List.getElem?_eq_some_iff.1 hk
 obtain ⟨g, hg, hc⟩ := OwnG.elem fit_ot h hk1
 rw [hk2] at hc
 exact ⟨(OwnG.sl fit_ot h).1, g, hg, hc⟩
end
theorem strs_one (w : World) (s : ByteArray) (hs : s.size ≤ 140737488355328) : Strs (w.alloc (.cells #[.string s] 9)) (some ⟨w.heap.size, 0, none⟩) [s] := fun k hk => by
 obtain rfl : k = 0 := by simpa using hk
 exact ⟨_, rfl, (cells_new w 9 [.string s] _ rfl).cell (j := 0) rfl, hs⟩
def sA0 : Sm := newS 1 2 5
def sB0 : Sm := newS 2 2 7
def txA : ByteArray := ⟨#[97]⟩
def evA : Ev := ⟨1, 5, 0, 1, txA⟩
def sA1 : Sm := (sendM sA0 2 [txA]).2.2
def sB1 : Sm := (takeM sB0 1 evA).2.2.2
def sB2 : Sm := (takeM sB1 1 evA).2.2.2
def evB : Ev := ⟨2, 7, 5, 1, ⟨#[]⟩⟩
def sA2 : Sm := (takeM sA1 2 evB).2.2.2
theorem sendA : sendM sA0 2 [txA] = ([⟨2, evA⟩], 0, sA1) := by rfl
theorem takeB1 : takeM sB0 1 evA = (txA, [⟨1, evB⟩], 0, sB1) := by rfl
theorem takeB2 : takeM sB1 1 evA = (⟨#[]⟩, [⟨1, evB⟩], 9, sB2) := by rfl
theorem okA0 : Sok 10 sA0 := newS_ok (by decide) 10 (by decide)
theorem okB0 : Sok 10 sB0 := newS_ok (by decide) 10 (by decide)
section
variable {N N' : Int} {p : Pm} {S : Sm}
theorem Hok.mono {h : Hd} (k : Hok N h) (hn : N ≤ N') : Hok N' h := ⟨k.s0, Int.le_trans k.s1 hn, k.d0, k.d1, k.l0, k.l1, k.p1⟩
theorem Pok.mono (h : Pok N p) (hn : N ≤ N') : Pok N' p := ⟨h.win, h.k0, h.k1, h.l0, Int.le_trans h.l1 hn, h.len, fun x hx => (h.held x hx).mono hn⟩
theorem Sok.mono (h : Sok N S) (hn : N ≤ N') : Sok N' S := ⟨h.n0, h.n1, h.n2, h.e0, h.e1, fun p hp => (h.peers p hp).mono hn⟩
theorem Sok.put (h : Sok N S) (x : Int) {p' : Pm} (hp : Pok N p') : Sok N (putP S x p') := by
 unfold putP
 refine ⟨h.n0, ?_, ?_, h.e0, h.e1, fun q hq => ?_⟩
 ·show S.node ≤ ((S.peers.set _ p').length : Int)
  rw [List.length_set]
  exact h.n1
 ·show (S.peers.set _ p').length ≤ 16
  rw [List.length_set]
  exact h.n2
 ·rcases List.mem_or_eq_of_mem_set hq with hq | hq
  ·exact h.peers q hq
  ·rw [hq]
   exact hp
theorem freshP_ok (hN : 0 ≤ N) : Pok N freshP := ⟨Wok.nil, Int.le_refl _, by decide, Int.le_refl _, hN, Nat.zero_le _, fun h hh => by cases hh⟩
theorem Sok.peer (h : Sok N S) (hN : 0 ≤ N) (x : Int) : Pok N (peerOf S x) := by
 unfold peerOf
 cases hx : S.peers[(x - 1).toNat]? with
 | none => exact freshP_ok hN
 | some p => exact h.peers p (List.mem_of_getElem? hx)
theorem holdP_ok (h : Pok N p) {ss : List ByteArray} (hr : roomP p ss.length = true) (hl : anyLong ss = false) : Pok (N + ss.length) (holdP p ss) := by
 refine ⟨h.win, h.k0, h.k1, ?_, ?_, ?_, fun x hx => ?_⟩
 ·show 0 ≤ p.last + (ss.length : Int)
  have := h.l0
  omega
 ·show p.last + (ss.length : Int) ≤ N + ss.length
  have := h.l1
  omega
 ·show (p.held ++ newHd p.last ss).length ≤ 32
  rw [List.length_append, newHd_len]
  exact (of_decide_eq_true hr).1
 ·rcases List.mem_append.1 (show x ∈ p.held ++ newHd p.last ss from hx) with hx | hx
  ·exact (h.held x hx).mono (by omega)
  ·obtain ⟨h1, h2, h3, h4, h5⟩ := newHd_mem hx
   have h6 := h.l0
   have h7 := h.l1
   refine ⟨by omega, by omega, ?_, ?_, ?_, ?_, anyLong_mem hl h5⟩
   ·rw [h3]; decide
   ·rw [h3]; decide
   ·rw [h4]; decide
   ·rw [h4]; decide
theorem goP_ok (h : Pok N p) (q : Int) : Pok N (goP p q) := by
 refine ⟨h.win, h.k0, h.k1, h.l0, h.l1, ?_, fun x hx => ?_⟩
 ·show (p.held.filter _).length ≤ 32
  have := List.length_filter_le (fun h => !decide (h.seq = q)) p.held
  have := h.len
  omega
 ·exact h.held x (List.mem_filter.1 (show x ∈ p.held.filter _ from hx)).1
theorem seen_ok (h : Pok N p) {q : Int} (hq : seenL p.L q = false) : Pok N ⟨p.L ++ [q], p.known, p.last, p.held⟩ := ⟨h.win.snoc hq, h.k0, h.k1, h.l0, h.l1, h.len, h.held⟩
theorem sendM_ok (h : Sok N S) (hN : 0 ≤ N) (x : Int) (ss : List ByteArray) : Sok (N + ss.length) (sendM S x ss).2.2 := by
 unfold sendM
 split
 ·exact h.mono (by omega)
 ·split
  ·exact h.mono (by omega)
  ·rename_i hl
   split
   ·exact h.mono (by omega)
   ·rename_i hr
    exact (h.mono (by omega)).put x (holdP_ok (h.peer hN x) (by simpa using hr) (by simpa using hl))
theorem tailM_ok (h : Sok N S) (hN : 0 ≤ N) (x : Int) (e : Ev) (out : List Ot) : Sok N (tailM S x e out).2.2.2 := by
 unfold tailM
 split
 ·exact h
 ·split
  ·show Sok N (if e.peer = 0 then S else putP S x (goP (peerOf S x) e.seq))
   split
   ·exact h
   ·exact h.put x (goP_ok (h.peer hN x) _)
  ·split
   ·exact h
   ·rename_i hs
    exact h.put x (seen_ok (h.peer hN x) (by simpa using hs))
theorem takeM_ok (h : Sok N S) (hN : 0 ≤ N) (x : Int) (e : Ev) : Sok N (takeM S x e).2.2.2 := by
 unfold takeM
 split
 ·exact h
 ·split
  ·exact h
  ·rename_i hr
   have hep := rightE_epoch (e := e) (by simpa using hr)
   split
   ·exact h
   ·split
    ·exact tailM_ok (h.put x (meetP_ok (h.peer hN x) hep.1 hep.2)) hN x e _
    ·exact tailM_ok h hN x e _
end
set_option maxHeartbeats 2000000 in
theorem awake_any (w : World) : Calls Try.prog 8 #[] w fun e w' => e = .returned (.bool true) ∧ Below w.heap.size w w' := by
 have HN1 := Lib.hid (New_good 1 2 5 (by decide) w)
 go_enter Try.func8, Try.ntmps8
 go_wp2_with fail
 refine HN1.out.mono ?_
 rintro e w1 ⟨a, F1, rfl, hs1, hb1⟩
 have HS1 := Lib.hid hs1
 have HB1 := Lib.hid hb1
 have HN2 := Lib.hid (New_good 2 2 7 (by decide) w1)
 clear hs1 hb1 HN1
 go_wp2_with fail
 refine HN2.out.mono ?_
 rintro e w2 ⟨b, F2, rfl, hs2, hb2⟩
 have HD2 : Hid (Duo w.heap.size w2 a b sA0 sB0 F1 F2) := Lib.hid ⟨HS1.out.later hb2, SAt.up HB1.out.size hs2, fun k e1 e2 => by
  have := HS1.out.lt k e1
  have := hs2.low k e2
  omega⟩
 have HB2 : Hid (Below w.heap.size w w2) := Lib.hid (HB1.out.trans (hb2.mono HB1.out.size))
 clear hs2 hb2 HN2 HS1 HB1
 obtain ⟨w3, hw3⟩ : ∃ W, W = w2.alloc (.cells #[.string { data := #[97] }] 9) := ⟨_, rfl⟩
 have hb3 : Below w2.heap.size w2 w3 := by rw [hw3]; exact below_alloc _ _
 have hst3 : Strs w3 (some ⟨w2.heap.size, 0, none⟩) [txA] := by rw [hw3]; exact strs_one w2 txA (by decide)
 have hd3 := HD2.out.later hb3
 have hB3 : w.heap.size ≤ w3.heap.size := Nat.le_trans HB2.out.size hb3.size
 have HSE := Lib.hid (Send_any hd3.one okA0 (N := 10) (by decide) hB3 2 _ _ 1 hst3 (fun ad e _ e2 => by
  cases e
  have h1 : w2.heap.size < w2.heap.size := HD2.out.one.lt _ e2
  omega) (by decide))
 rw [sendA] at HSE
 have HD3 := Lib.hid hd3
 have HB3 : Hid (Below w.heap.size w w3) := Lib.hid (HB2.out.trans (hb3.mono HB2.out.size))
 clear hb3 hst3 hd3 hB3 HD2 HB2
 go_upto_region 5 with (fail)
 go_wp2_with (rw [← hw3])
 refine HSE.out.mono ?_
 rintro e w4 ⟨V, vn, vc, FA, rfl, hown, hst4, hvf⟩
 obtain ⟨hvn, g, rfl, hco⟩ := OwnG.out hown (k := 0) rfl
 obtain rfl : vn = 1 := hvn
 have x1 : w4.cell? ⟨g, 1, none⟩ = _ := hco.cell (j := 1) rfl
 have x2 : w4.cell? ⟨g, 2, none⟩ = _ := hco.cell (j := 2) rfl
 have x3 : w4.cell? ⟨g, 3, none⟩ = _ := hco.cell (j := 3) rfl
 have x4 : w4.cell? ⟨g, 4, none⟩ = _ := hco.cell (j := 4) rfl
 have x5 : w4.cell? ⟨g, 5, none⟩ = _ := hco.cell (j := 5) rfl
 dsimp only [evA] at x1 x2 x3 x4 x5
 have hd4 := HD3.out.stepA hst4
 have HB4 : Hid (Below w.heap.size w w4) := Lib.hid (HB3.out.trans (hst4.below HD3.out.one HB3.out.size))
 have HGB : Hid (¬ F2 g) := Lib.hid fun e2 => by
  have h1 := HD3.out.two.lt g e2
  have h2 := (hown.lt g rfl).1
  omega
 have HCO := Lib.hid hco
 have HT1 := Lib.hid (Take_any hd4.two okB0 (N := 10) HB4.out.size 1 evA (by decide))
 rw [takeB1] at HT1
 have HD4 := Lib.hid hd4
 clear hown hst4 hvf hco hd4 HSE HD3 HB3 hw3
 unfold evA Ev.val at HT1
 dsimp only at HT1
 go_wp2_with fail
 refine HT1.out.mono ?_
 rintro e w5 ⟨V5, n5, c5, FB5, rfl, hown5, hst5, hvf5⟩
 obtain ⟨hn5, g5, rfl, hco5⟩ := OwnG.out hown5 (k := 0) rfl
 obtain rfl : n5 = 1 := hn5
 have HCO5 := Lib.hid hco5
 have hc5 := HCO.out.only hst5.only HGB.out
 have x1 : w5.cell? ⟨g, 1, none⟩ = _ := hc5.cell (j := 1) rfl
 have x2 : w5.cell? ⟨g, 2, none⟩ = _ := hc5.cell (j := 2) rfl
 have x3 : w5.cell? ⟨g, 3, none⟩ = _ := hc5.cell (j := 3) rfl
 have x4 : w5.cell? ⟨g, 4, none⟩ = _ := hc5.cell (j := 4) rfl
 have x5 : w5.cell? ⟨g, 5, none⟩ = _ := hc5.cell (j := 5) rfl
 dsimp only [evA] at x1 x2 x3 x4 x5
 have hd5 := HD4.out.stepB hst5
 have HB5 : Hid (Below w.heap.size w w5) := Lib.hid (HB4.out.trans (hst5.below HD4.out.two HB4.out.size))
 have HG5 : Hid (¬ FB5 g5 ∧ ¬ FA g5) := Lib.hid ⟨hvf5 g5 rfl, fun e2 => by
  have h1 := HD4.out.one.lt g5 e2
  have h2 := (hown5.lt g5 rfl).1
  omega⟩
 have HT2 := Lib.hid (Take_any hd5.two (show Sok (10 : Nat) sB1 from takeM_ok okB0 (by decide) 1 evA) (N := 10) HB5.out.size 1 evA (by decide))
 rw [takeB2] at HT2
 have HD5 := Lib.hid hd5
 clear hown5 hst5 hvf5 hco5 hc5 hd5 HT1 HD4 HCO HGB
 unfold evA Ev.val at HT2
 dsimp only at HT2
 go_wp2_with fail
 refine HT2.out.mono ?_
 rintro e w6 ⟨V6, n6, c6, FB6, rfl, hown6, hst6, hvf6⟩
 have hc6 := HCO5.out.only hst6.only HG5.out.1
 have y1 : w6.cell? ⟨g5, 1, none⟩ = _ := hc6.cell (j := 1) rfl
 have y2 : w6.cell? ⟨g5, 2, none⟩ = _ := hc6.cell (j := 2) rfl
 have y3 : w6.cell? ⟨g5, 3, none⟩ = _ := hc6.cell (j := 3) rfl
 have y4 : w6.cell? ⟨g5, 4, none⟩ = _ := hc6.cell (j := 4) rfl
 have y5 : w6.cell? ⟨g5, 5, none⟩ = _ := hc6.cell (j := 5) rfl
 dsimp only [evB] at y1 y2 y3 y4 y5
 have hd6 := HD5.out.stepB hst6
 have HB6 : Hid (Below w.heap.size w w6) := Lib.hid (HB5.out.trans (hst6.below HD5.out.two HB5.out.size))
 have HT3 := Lib.hid (Take_any hd6.one (show Sok (11 : Nat) sA1 from sendM_ok okA0 (by decide) 2 [txA]) (N := 11) HB6.out.size 2 evB (by decide))
 have HD6 := Lib.hid hd6
 clear hown6 hst6 hvf6 hc6 hd6 HT2 HD5 HCO5 HG5 x1 x2 x3 x4 x5
 unfold TakeEnds at HT3
 have hA2 : (takeM sA1 2 evB).2.2.2 = sA2 := rfl
 rw [hA2] at HT3
 have HT4 : Hid (Calls Try.prog 21 #[.pointer (some ⟨a, 0, none⟩), .int .i64 2, .agg #[.int .i64 2, .int .i64 7, .int .i64 5, .int .i64 1, .string ⟨#[]⟩]] w6 fun r w' => ∃ x y z F', r = .returned (.tuple #[x, y, z]) ∧ SStep w.heap.size FA w6 a sA2 F' w') := Lib.hid (by
  have h1 := HT3.out
  unfold evB Ev.val at h1
  dsimp only at h1
  refine h1.mono ?_
  rintro e w7 ⟨V, n, c, F', rfl, _, h3, _⟩
  exact ⟨_, _, _, F', rfl, h3⟩)
 clear HT3 hA2
 go_wp2_with fail
 refine HT4.out.mono ?_
 rintro e w7 ⟨q1, q2, q3, FA7, rfl, hst7⟩
 have hd7 := HD6.out.stepA hst7
 have HB7 : Hid (Below w.heap.size w w7) := Lib.hid (HB6.out.trans (hst7.below HD6.out.one HB6.out.size))
 obtain ⟨pb7, As7, cs7, hx7⟩ := hd7.one
 have HH := Lib.hid (Held_some hx7 (by decide) 1 (by decide) (by decide))
 have HK := Lib.hid (Known_some hx7 (by decide) 1 (by decide) (by decide))
 rw [show ((1 : Nat) : Int) + 1 = 2 from rfl, show ((sA2.peers[1]'(by decide)).held.length : Int) = 0 from rfl] at HH
 rw [show ((1 : Nat) : Int) + 1 = 2 from rfl, show (sA2.peers[1]'(by decide)).known = 7 from rfl] at HK
 clear hst7 hd7 hx7 HD6 HT4 y1 y2 y3 y4 y5
 unfold txA
 go_wp2_with fail
 refine HH.out.mono ?_
 rintro e w8 ⟨rfl, rfl⟩
 go_wp2_with fail
 refine HK.out.mono ?_
 rintro e w9 ⟨rfl, rfl⟩
 go_wp2_with fail
 go_returns
 exact ⟨rfl, HB7.out⟩
end Go.Proofs.Ytccdpgbmkiapdaa.Ses
