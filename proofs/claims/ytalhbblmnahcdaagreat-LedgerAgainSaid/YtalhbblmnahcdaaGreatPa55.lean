/-
  Layer 8: a state's own records make it, behind whatever state: LedgerAgain.
  Conditions: none.
-/
import Derived.Test.YtalhbblmnahcdaaGreatPa16
import Derived.Test.YtalhbblmnahcdaaGreatPa48
import Derived.Test.YtalhbblmnahcdaaGreatPa52
import Derived.Test.YtalhbblmnahcdaaGreatPa53
import Derived.Test.YtalhbblmnahcdaaGreatPa54
namespace Go.Proofs.YtalhbblmnahcdaaGreat.LedgerAgain
set_option maxRecDepth 100000
open Go.ChangeShapes Go.WideShapes Go.ChangeAt Go.RowKit Go.Deep Go.Proofs.YtalhbblmnahcdaaGreat.Mem Go.Proofs.YtalhbblmnahcdaaGreat.Item Go.Proofs.YtalhbblmnahcdaaGreat.Rec Go.Proofs.YtalhbblmnahcdaaGreat.Led
theorem rplain_any (r : Rc) (y : Lay) (w : World) : Calls Tryz.prog 14 #[r.val y] w fun e w' => e = .returned (r.val y) ∧ Below w.heap.size w w' := by
 obtain ⟨k, ⟨t1, t2, t3⟩, its, nds, a0, a1, a2, a3, a4, a5, a6, a7, yes⟩ := r
 obtain ⟨A, c, B, d⟩ := y
 generalize hL : its.length = L
 generalize hM : nds.length = M
 unfold Rc.val
 simp only [hL, hM]
 clear hL hM
 go_enter Tryz.func14, Tryz.ntmps14
 go_wp2
 go_returns
 exact ⟨rfl, Go.Joins.below_alloc2 _ _ _⟩
theorem rec_small {s : St} {m : Nat} (h : Sz m s) : ∀ r ∈ recordsL s, r.items.length ≤ 1000 ∧ r.nodes.length ≤ 1000 := by
 have h0 : ∀ (l : List Pl) (c : Nat), ∀ r ∈ cellsFrom c l, r.items = [] ∧ r.nodes = [] := by
  intro l
  induction l with
  | nil => intro c r hr; cases hr
  | cons q l ih =>
   intro c r hr
   rw [cellsFrom] at hr
   rcases List.mem_append.1 hr with hr | hr
   ·split at hr
    ·cases hr
    ·rw [List.mem_singleton.1 hr]; exact ⟨rfl, rfl⟩
   ·exact ih _ r hr
 intro r hr
 unfold recordsL at hr
 rcases List.mem_cons.1 hr with e | hr
 ·rw [e]; exact ⟨Nat.zero_le _, Nat.zero_le _⟩
 rcases List.mem_append.1 hr with hr | hr
 ·split at hr
  ·cases hr
  ·rw [List.mem_singleton.1 hr]; exact ⟨Nat.zero_le _, Nat.zero_le _⟩
 rcases List.mem_append.1 hr with hr | hr
 ·obtain ⟨e1, e2⟩ := h0 _ _ r hr
  rw [e1, e2]; exact ⟨Nat.zero_le _, Nat.zero_le _⟩
 rcases List.mem_append.1 hr with hr | hr
 ·obtain ⟨d, _, rfl⟩ := List.mem_map.1 hr
  exact ⟨Nat.zero_le _, Nat.zero_le _⟩
 rcases List.mem_append.1 hr with hr | hr
 ·obtain ⟨p, hp, rfl⟩ := List.mem_map.1 hr
  exact h.pin p hp
 ·obtain ⟨c, hc, hr⟩ := List.mem_flatMap.1 hr
  unfold rcK at hr
  rcases List.mem_cons.1 hr with e | hr
  ·rw [e]; exact h.cin c hc
  ·split at hr
   ·rw [List.mem_singleton.1 hr]; exact ⟨Nat.zero_le _, Nat.zero_le _⟩
   ·cases hr
theorem recs_few {s : St} {m : Nat} (h : Sz m s) (hm : m ≤ 80) : (recordsL s).length ≤ 1000 := by
 have h1 := cellsFrom_len s.places 0
 have h2 := flatK_len s.com
 have h3 := h.places
 have h4 := h.prep
 have h5 := h.dec
 have h6 := h.com
 have hE : (if s.epoch = 0 then [] else [rcE s.epoch] : List Rc).length ≤ 1 := by split <;> simp
 unfold recordsL
 simp only [List.length_cons, List.length_append, List.length_map]
 omega
theorem reachM_Good (b1 b2 b3 : Int) {l : List Rc} (hs : ∀ r ∈ l, r.ok) (h : (reachM b1 b2 b3 l).2 = true) : Led.Good (reachM b1 b2 b3 l).1 := by
 unfold reachM at h ⊢
 split
 ·rename_i e
  exact (Led.Good.first e).reach l fun r hr => ⟨(hs r hr).value, fun x hx => ((hs r hr).items x hx).2.2.2⟩
 ·rename_i e
  rw [if_neg e] at h
  cases h
/-- What lies there behind all the makings: three boxes, three lists. -/
structure Al (W wr : World) (s t : St) (y z : Sy) (b7 b9 : Nat) : Prop where
 low : Below W.heap.size W wr
 box7 : Cells wr b7 32 (s.vals y)
 see7 : Sees wr s y
 box9 : Cells wr b9 32 (t.vals z)
 see9 : Sees wr t z
theorem Al.later {W wr w' : World} {s t : St} {y z : Sy} {b7 b9 : Nat} (h : Al W wr s t y z b7 b9) (hb : Below wr.heap.size wr w') : Al W w' s t y z b7 b9 := ⟨h.low.trans (hb.mono h.low.size), h.box7.later hb, h.see7.later hb, h.box9.later hb, h.see9.later hb⟩
def la16 (va vb : Value) (ba oa na xca bb ob nb xcb kx : Nat) : Nat → Value → World → Prop
 | 0, v, _ => v = .slice (some ⟨ba, oa, none⟩) na xca
 | 1, v, _ => v = .int .i64 (kx : Int)
 | 2, v, _ => v = .pointer (some ⟨ba, oa + kx * 15, none⟩)
 | 3, v, _ => v = va
 | 4, v, _ => v = va
 | 5, v, _ => v = .slice (some ⟨bb, ob, none⟩) nb xcb
 | 6, v, _ => v = .int .i64 (kx : Int)
 | 7, v, _ => v = .pointer (some ⟨bb, ob + kx * 15, none⟩)
 | 8, v, _ => v = vb
 | 9, v, _ => v = .bool true
 | 10, v, _ => v = .bool false
 | _, _, _ => True
theorem la16_later {va vb : Value} {ba oa na xca bb ob nb xcb kx : Nat} {j : Nat} {v : Value} {w w' : World} (_hb : Below w.heap.size w w') (h : la16 va vb ba oa na xca bb ob nb xcb kx j v w) : la16 va vb ba oa na xca bb ob nb xcb kx j v w' := by
 match j, h with
 | 0, h | 1, h | 2, h | 3, h | 4, h | 5, h | 6, h | 7, h | 8, h | 9, h | 10, h => exact h
 | _ + 11, _ => exact trivial
def la20 (va vb : Value) (sx : St) : Nat → Value → World → Prop
 | 0, v, _ => v = .int .i64 0
 | 1, v, _ => v = .bool true
 | 2, v, _ => v = .bool true
 | 3, v, _ => v = va
 | 4, v, w => ∃ zz, v = sx.val zz ∧ Sees w sx zz
 | 5, v, _ => v = vb
 | 6, v, w => ∃ zz, v = sx.val zz ∧ Sees w sx zz
 | 7, v, _ => v = .bool true
 | 8, v, _ => v = .bool true
 | 9, v, _ => v = .bool true
 | _, _, _ => True
theorem la20_later {va vb : Value} {sx : St} {j : Nat} {v : Value} {w w' : World} (hb : Below w.heap.size w w') (h : la20 va vb sx j v w) : la20 va vb sx j v w' := by
 match j, h with
 | 0, h | 1, h | 2, h | 3, h | 5, h | 7, h | 8, h | 9, h => exact h
 | 4, h =>
  obtain ⟨zz, h1, h2⟩ := h
  exact ⟨zz, h1, h2.later hb⟩
 | 6, h =>
  obtain ⟨zz, h1, h2⟩ := h
  exact ⟨zz, h1, h2.later hb⟩
 | _ + 10, _ => exact trivial
set_option maxHeartbeats 4000000 in
theorem walk (b1 b2 b3 c1 c2 c3 : Int) (A : Option Addr) (l : List Rc) (zs : List Lay) (cap : Nat) (W : World) (hr : Recs W A l zs) (hl : l.length ≤ maxLen) (hs : ∀ r ∈ l, r.ok ∧ r.items.length ≤ maxLen ∧ r.nodes.length ≤ maxLen) :
  Calls Tryz.prog 5 #[.agg #[.int .i64 b1, .int .i64 b2, .int .i64 b3], .agg #[.int .i64 c1, .int .i64 c2, .int .i64 c3], .slice A l.length cap] W fun e W' => e = .returned (.bool true) ∧ Below W.heap.size W W' := by
 obtain ⟨w0, hw0⟩ : ∃ v, v = W.alloc (.cells #[.int .i64 b1, .int .i64 b2, .int .i64 b3] 23) := ⟨_, rfl⟩
 obtain ⟨w1, hw1⟩ : ∃ v, v = w0.alloc (.cells #[.int .i64 c1, .int .i64 c2, .int .i64 c3] 23) := ⟨_, rfl⟩
 have hb0 : Below W.heap.size W w0 := by rw [hw0]; exact below_alloc _ _
 have hb01 : Below w0.heap.size w0 w1 := by rw [hw1]; exact below_alloc _ _
 have hb1 : Below W.heap.size W w1 := hb0.trans (hb01.mono hb0.size)
 have hz0 : w0.heap.size = W.heap.size + 1 := by rw [hw0, World.size_alloc]
 have hc1 : Cells w1 W.heap.size 23 [.int .i64 b1, .int .i64 b2, .int .i64 b3] := Cells.later (by rw [hw0]; exact cells_new _ _ _ _ rfl) hb01
 have hd1 : Cells w1 (W.heap.size + 1) 23 [.int .i64 c1, .int .i64 c2, .int .i64 c3] := by rw [← hz0, hw1]; exact cells_new _ _ _ _ rfl
 have HB1 := Lib.hid hb1
 have HC1 := Lib.hid hc1
 have HD1 := Lib.hid hd1
 have HG := Lib.hid (fun w (h : Below W.heap.size W w) => great_any A l zs cap 80 w (hr.later h) hl (fun r hr => (hs r hr).2) (by decide))
 have HGS := Lib.hid (fun (h : greatB l 80 = false) => great_small h)
 have HRE := Lib.hid (fun (w : World) (h : Below W.heap.size W w) (h1 : l.length ≤ 80) (h2 : ∀ r ∈ l, r.items.length ≤ 60 ∧ r.nodes.length ≤ 60) => reached_any b1 b2 b3 A l zs cap w (hr.later h) (by omega) (fun r hr => ⟨Nat.le_trans (h2 r hr).1 (by decide), Nat.le_trans (h2 r hr).2 (by decide)⟩))
 have HRG := Lib.hid (fun (h1 : l.length ≤ 80) (h2 : ∀ r ∈ l, r.items.length ≤ 60 ∧ r.nodes.length ≤ 60) => reachM_size b1 b2 b3 (l := l) (fun r hr => ⟨Nat.le_trans (h2 r hr).1 (by decide), Nat.le_trans (h2 r hr).2 (by decide)⟩))
 have HGO := Lib.hid (reachM_Good b1 b2 b3 (l := l) (fun r hr => (hs r hr).1))
 obtain ⟨G, hG⟩ : ∃ G, greatB l 80 = G := ⟨_, rfl⟩
 obtain ⟨M, hM⟩ : ∃ M, reachM b1 b2 b3 l = M := ⟨_, rfl⟩
 rw [hG] at HG HGS
 rw [hM] at HRE HRG HGO
 obtain ⟨n0, hn⟩ : ∃ n, l.length = n := ⟨_, rfl⟩
 rw [hn] at HG HRE HRG HGS ⊢
 clear hr hl hs hb0 hb01 hb1 hc1 hd1 hG hM hn
 go_enter Tryz.func5, Tryz.ntmps5
 go_wp2_with fail
 rw [← hw0]
 rw [← hw1]
 try rw [hz0]
 clear hw0 hw1 hz0
 refine (awake_any w1).mono ?_
 rintro e w2 ⟨rfl, hb2⟩
 have HB2 := Lib.hid (HB1.out.trans (hb2.mono HB1.out.size))
 have HC2 := Lib.hid (HC1.out.later hb2)
 have HD2 := Lib.hid (HD1.out.later hb2)
 clear hb2 HB1 HC1 HD1
 go_wp2_with fail
 refine (HG.out w2 HB2.out).mono ?_
 rintro e w3 ⟨rfl, hb3⟩
 have HB3 := Lib.hid (HB2.out.trans (hb3.mono HB2.out.size))
 have hc3 := HC2.out.later hb3
 have HD3 := Lib.hid (HD2.out.later hb3)
 clear hb3 HB2 HC2 HD2 HG
 cases G with
 | true =>
  go_wp2_with fail
  go_returns
  exact ⟨rfl, HB3.out⟩
 | false =>
  have HSM := Lib.hid (HGS.out (by trivial))
  have q0 := hc3.cell (j := 0) rfl
  have q1 := hc3.cell (j := 1) rfl
  have q2 := hc3.cell (j := 2) rfl
  clear HGS hc3
  go_wp2_with fail
  clear q0 q1 q2
  refine (HRE.out w3 HB3.out HSM.out.1 HSM.out.2).mono ?_
  rintro e w4 ⟨⟨y, rfl, hst⟩, hb4⟩
  have HGD := Lib.hid (HRG.out HSM.out.1 HSM.out.2)
  have HB4 := Lib.hid (HB3.out.trans (hb4.mono HB3.out.size))
  have HD4 := Lib.hid (HD3.out.later hb4)
  have HST := Lib.hid hst
  clear hb4 hst HRE HRG HB3 HD3
  obtain ⟨s, ok⟩ := M
  simp only at HGD HST HGO
  obtain ⟨w5, hw5⟩ : ∃ v, v = w4.alloc (.cells #[.int .i64 s.node, .int .i64 s.nodes, .int .i64 s.cells, .int .i64 s.epoch, .slice y.P s.places.length y.p, .slice y.Q s.prep.length y.q, .slice y.D s.dec.length y.d, .slice y.C s.com.length y.c] 32) := ⟨_, rfl⟩
  have hb5 : Below w4.heap.size w4 w5 := by rw [hw5]; exact below_alloc _ _
  have HB5 := Lib.hid (HB4.out.trans (hb5.mono HB4.out.size))
  have hd5 := HD4.out
  have hl5 := hd5.lt
  have p0 := hd5.cell (j := 0) rfl
  have p1 := hd5.cell (j := 1) rfl
  have p2 := hd5.cell (j := 2) rfl
  have HBS := Lib.hid hb5
  have HCS : Hid (Cells w5 w4.heap.size 32 (s.vals y)) := Lib.hid (by rw [hw5]; exact cells_new _ _ _ _ rfl)
  have HFI := Lib.hid (First_any c1 c2 c3 w5)
  obtain ⟨FI, hFI⟩ : ∃ f, firstL c1 c2 c3 = f := ⟨_, rfl⟩
  have HZF := Lib.hid (Sz.first c1 c2 c3)
  rw [hFI] at HFI HZF
  obtain ⟨t, et⟩ := FI
  simp only at HFI HZF
  simp only [St.val]
  clear hd5 hb5 hFI HB4 HD4
  go_wp2_with fail
  rw [← hw5]
  clear hw5 p0 p1 p2 hl5
  refine HFI.out.mono ?_
  rintro e w6 ⟨⟨z, rfl, hst6⟩, hb6⟩
  obtain ⟨w7, hw7⟩ : ∃ v, v = w6.alloc (.cells #[.int .i64 t.node, .int .i64 t.nodes, .int .i64 t.cells, .int .i64 t.epoch, .slice z.P t.places.length z.p, .slice z.Q t.prep.length z.q, .slice z.D t.dec.length z.d, .slice z.C t.com.length z.c] 32) := ⟨_, rfl⟩
  have hb7 : Below w6.heap.size w6 w7 := by rw [hw7]; exact below_alloc _ _
  have hb57 : Below w5.heap.size w5 w7 := hb6.trans (hb7.mono hb6.size)
  have HAL : Hid (Al W w7 s t y z w4.heap.size w6.heap.size) := Lib.hid ⟨HB5.out.trans (hb57.mono HB5.out.size), HCS.out.later hb57, (HST.out.sees.later HBS.out).later hb57, by rw [hw7]; exact cells_new _ _ _ _ rfl, hst6.sees.later hb7⟩
  simp only [St.val]
  clear hst6 hb6 hb7 hb57 HB5 HCS HBS HST HFI
  obtain ⟨b7, hb7⟩ : ∃ b, w4.heap.size = b := ⟨_, rfl⟩
  obtain ⟨b9, hb9⟩ : ∃ b, w6.heap.size = b := ⟨_, rfl⟩
  rw [hb7, hb9] at HAL
  go_upto_region 7 with (fail)
  rw [← hw7]
  try rw [hb7]
  try rw [hb9]
  clear hw7 hb7 hb9
  cases ok with
  | false =>
   go_wp2_with fail
   go_returns
   exact ⟨rfl, HAL.out.low⟩
  | true =>
   by_cases het : et = 0
   rotate_left
   ·have h1 : (et != 0) = true := by simpa using het
    have h2 : (et == 0) = false := by simpa using het
    clear het
    go_wp2_with fail
    go_returns
    exact ⟨rfl, HAL.out.low⟩
   subst het
   have HGG := Lib.hid (HGO.out rfl)
   have HZ := Lib.hid (HGD.out rfl)
   have HSS : Hid (Small s) := Lib.hid (HZ.out.small (by have := HSM.out.1; omega))
   have HFEW : Hid ((recordsL s).length ≤ 1000) := Lib.hid (recs_few HZ.out HSM.out.1)
   have HRS := Lib.hid (rec_small HZ.out)
   have HAG := Lib.hid (Led.again HGG.out t)
   have HRK := Lib.hid (recordsK_any s y w7 HAL.out.see7 HSS.out)
   have hcx := HAL.out.box7
   unfold St.vals at hcx
   have q0 := hcx.cell (j := 0) rfl
   have q1 := hcx.cell (j := 1) rfl
   have q2 := hcx.cell (j := 2) rfl
   have q3 := hcx.cell (j := 3) rfl
   have q4 := hcx.cell (j := 4) rfl
   have q5 := hcx.cell (j := 5) rfl
   have q6 := hcx.cell (j := 6) rfl
   have q7 := hcx.cell (j := 7) rfl
   unfold St.val at HRK
   clear HGD HGO hcx
   go_wp2_with fail
   clear q0 q1 q2 q3 q4 q5 q6 q7
   refine HRK.out.mono ?_
   rintro e w8 ⟨⟨A1, ca, zs1, rfl, hre, _⟩, hb8⟩
   have HAL8 := Lib.hid (HAL.out.later hb8)
   have HRE1 := Lib.hid hre
   have HPS := Lib.hid (plainS_any s y w8 HAL8.out.see7 HSS.out)
   have hcx := HAL8.out.box7
   unfold St.vals at hcx
   have q0 := hcx.cell (j := 0) rfl
   have q1 := hcx.cell (j := 1) rfl
   have q2 := hcx.cell (j := 2) rfl
   have q3 := hcx.cell (j := 3) rfl
   have q4 := hcx.cell (j := 4) rfl
   have q5 := hcx.cell (j := 5) rfl
   have q6 := hcx.cell (j := 6) rfl
   have q7 := hcx.cell (j := 7) rfl
   unfold St.val at HPS
   obtain ⟨L, hL⟩ : ∃ q, recordsL s = q := ⟨_, rfl⟩
   rw [hL] at HRE1 HFEW HRS HAG
   have HLL := Lib.hid hL
   obtain ⟨n, hn⟩ : ∃ q, L.length = q := ⟨_, rfl⟩
   have HN := Lib.hid hn
   simp only [hL, hn]
   clear hre hb8 HAL HRK hcx
   go_wp2_with fail
   clear q0 q1 q2 q3 q4 q5 q6 q7
   refine HPS.out.mono ?_
   rintro e w9 ⟨⟨zz, rfl, hz⟩, hb9⟩
   have HAL9 := Lib.hid (HAL8.out.later hb9)
   have HRE9 := Lib.hid (HRE1.out.later hb9)
   have HRD := Lib.hid (recordsD_any s zz w9 hz HSS.out)
   rw [hL] at HRD
   simp only [hn] at HRD
   unfold St.val at HRD
   clear hb9 hz HAL8 HRE1 HPS hL hn
   go_wp2_with fail
   refine HRD.out.mono ?_
   rintro e wb ⟨⟨A2, cb, zs2, rfl, hre, _⟩, hbb⟩
   have HALb := Lib.hid (HAL9.out.later hbb)
   have HREb := Lib.hid (HRE9.out.later hbb)
   have HR2b := Lib.hid hre
   have hnb : n ≤ 1000 := by rw [← HN.out]; exact HFEW.out
   clear hre hbb HAL9 HRE9 HRD
   go_wp2_with fail
   go_loopw [13, 54] (fun _ i wr => ∃ k : Nat, k ≤ n ∧ i = .int .i64 (k : Int) ∧ Hid (Below wb.heap.size wb wr)) (fun _ i _ => n - (intOf i).toNat)
   case atStart => exact ⟨0, Nat.zero_le _, rfl, Lib.hid (Below.refl _ _)⟩
   case round =>
    obtain ⟨k, hk, rfl, HB⟩ := hrel
    by_cases hlt : k < n
    ·have hlk : k < L.length := by have := HN.out; omega
     have hz1 : k < zs1.length := by have := HREb.out.len; omega
     have hz2 : k < zs2.length := by have := HR2b.out.len; omega
     have hra := HREb.out.later HB.out
     have hrb := HR2b.out.later HB.out
     obtain ⟨e1, o1, hA1, hr1⟩ := hra.row k (by rw [List.length_zipWith]; omega)
     obtain ⟨e2, o2, hA2, hr2⟩ := hrb.row k (by rw [List.length_zipWith]; omega)
     rw [List.getElem_zipWith] at hr1 hr2
     have ht1 := hra.each k hlk hz1
     have ht2 := hrb.each k hlk hz2
     have hsm := HRS.out L[k] (List.getElem_mem hlk)
     obtain ⟨r, hr⟩ : ∃ q, L[k] = q := ⟨_, rfl⟩
     obtain ⟨z1, hz1'⟩ : ∃ q, zs1[k] = q := ⟨_, rfl⟩
     obtain ⟨z2, hz2'⟩ : ∃ q, zs2[k] = q := ⟨_, rfl⟩
     rw [hr] at hr1 hr2 ht1 ht2 hsm
     rw [hz1'] at hr1 ht1
     rw [hz2'] at hr2 ht2
     subst hA1
     subst hA2
     have HRA := Lib.hid hr1
     have HRB := Lib.hid hr2
     have HJ : Hid (k < n ∧ ((k : Int).toNat = k)) := Lib.hid ⟨hlt, by omega⟩
     have HPL : Hid (∀ wi, Calls Tryz.prog 14 #[.agg #[.int .i64 r.kind, .int .i64 r.tid.node, .int .i64 r.tid.epoch, .int .i64 r.tid.seq, .slice z1.A r.items.length z1.c, .slice z1.B r.nodes.length z1.d, .int .i64 r.node, .int .i64 r.count, .int .i64 r.num, .int .i64 r.cell, .int .i64 r.status, .int .i64 r.hop, .int .i64 r.version, .int .i64 r.value, .bool r.yes]] wi fun e w' => e = .returned (.agg #[.int .i64 r.kind, .int .i64 r.tid.node, .int .i64 r.tid.epoch, .int .i64 r.tid.seq, .slice z1.A r.items.length z1.c, .slice z1.B r.nodes.length z1.d, .int .i64 r.node, .int .i64 r.count, .int .i64 r.num, .int .i64 r.cell, .int .i64 r.status, .int .i64 r.hop, .int .i64 r.version, .int .i64 r.value, .bool r.yes]) ∧ Below wi.heap.size wi w') := Lib.hid (fun wi => rplain_any r z1 wi)
     have HSM2 : Hid (∀ wi, Below wr.heap.size wr wi → Calls Tryz.prog 30 #[.agg #[.int .i64 r.kind, .int .i64 r.tid.node, .int .i64 r.tid.epoch, .int .i64 r.tid.seq, .slice z1.A r.items.length z1.c, .slice z1.B r.nodes.length z1.d, .int .i64 r.node, .int .i64 r.count, .int .i64 r.num, .int .i64 r.cell, .int .i64 r.status, .int .i64 r.hop, .int .i64 r.version, .int .i64 r.value, .bool r.yes], .agg #[.int .i64 r.kind, .int .i64 r.tid.node, .int .i64 r.tid.epoch, .int .i64 r.tid.seq, .slice z2.A r.items.length z2.c, .slice z2.B r.nodes.length z2.d, .int .i64 r.node, .int .i64 r.count, .int .i64 r.num, .int .i64 r.cell, .int .i64 r.status, .int .i64 r.hop, .int .i64 r.version, .int .i64 r.value, .bool r.yes]] wi fun e w' => Rec.SameOut (r = r) e ∧ Below wi.heap.size wi w') := Lib.hid (fun wi hi => Rec.same_any r r z1 z2 wi ⟨ht1.1.later hi, ht1.2.1.later hi⟩ ⟨ht2.1.later hi, ht2.2.1.later hi⟩ (by omega) (by omega))
     clear HSM
     have HSM := HSM2
     clear hr1 hr2 ht1 ht2 hra hrb hsm hr hz1' hz2' hlk hz1 hz2 HSM2
     go_upto_region 16 with (fail)
     refine Reg.region_heavy (by kernel_rfl) 10 [10] (la16 (.agg #[.int .i64 r.kind, .int .i64 r.tid.node, .int .i64 r.tid.epoch, .int .i64 r.tid.seq, .slice z1.A r.items.length z1.c, .slice z1.B r.nodes.length z1.d, .int .i64 r.node, .int .i64 r.count, .int .i64 r.num, .int .i64 r.cell, .int .i64 r.status, .int .i64 r.hop, .int .i64 r.version, .int .i64 r.value, .bool r.yes]) (.agg #[.int .i64 r.kind, .int .i64 r.tid.node, .int .i64 r.tid.epoch, .int .i64 r.tid.seq, .slice z2.A r.items.length z2.c, .slice z2.B r.nodes.length z2.d, .int .i64 r.node, .int .i64 r.count, .int .i64 r.num, .int .i64 r.cell, .int .i64 r.status, .int .i64 r.hop, .int .i64 r.version, .int .i64 r.value, .bool r.yes]) e1 o1 n ca e2 o2 n cb k) (fun a => Below wr.heap.size wr a) (fun a => Below wr.heap.size wr a) (fun V => [(some 57, V 0), (some 58, V 1), (some 59, V 2), (some 60, V 3), (some 61, V 4), (some 62, V 5), (some 63, V 6), (some 64, V 7), (some 65, V 8), (some 66, V 9), (some 67, V 10)]) (by kernel_rfl) (by kernel_rfl) (by kernel_rfl) (fun V => rfl) ?_ ?_ ?_
     ·exact (Below.refl _ _).drew
     ·intro i o ho
      have hi : i < 11 := (Array.getElem?_eq_some_iff.1 ho).1
      rcases i with _ | _ | _ | _ | _ | _ | _ | _ | _ | _ | _ | i
      rotate_right
      ·omega
      all_goals obtain rfl := Option.some.inj ho
      all_goals intro ρ wi hE hI hs hd
      all_goals try dsimp only at hI
      ·have e11 : ρ (.tmp 11) = .slice (some ⟨e1, o1, none⟩) n ca := hs 11; exact Reg.gw hI
      ·have e13 : ρ (.tmp 13) = .int .i64 (k : Int) := hs 13; exact Reg.gw hI
      ·obtain ⟨_, rfl, e57⟩ := hd 0 57; obtain ⟨_, rfl, e58⟩ := hd 1 58; have hx1 := HJ.out.1; have hx2 := HJ.out.2; exact Reg.gw hI
      ·obtain ⟨_, rfl, e59⟩ := hd 2 59; have hr := range_later HRA.out hI; have x0 : wi.cell? ⟨e1, o1 + k * 15, none⟩ = some (.int .i64 r.kind) := hr 0 _ rfl; have x1 : wi.cell? ⟨e1, o1 + k * 15 + 1, none⟩ = some (.int .i64 r.tid.node) := hr 1 _ rfl; have x2 : wi.cell? ⟨e1, o1 + k * 15 + 2, none⟩ = some (.int .i64 r.tid.epoch) := hr 2 _ rfl
       have x3 : wi.cell? ⟨e1, o1 + k * 15 + 3, none⟩ = some (.int .i64 r.tid.seq) := hr 3 _ rfl; have x4 : wi.cell? ⟨e1, o1 + k * 15 + 4, none⟩ = some (.slice z1.A r.items.length z1.c) := hr 4 _ rfl; have x5 : wi.cell? ⟨e1, o1 + k * 15 + 5, none⟩ = some (.slice z1.B r.nodes.length z1.d) := hr 5 _ rfl; have x6 : wi.cell? ⟨e1, o1 + k * 15 + 6, none⟩ = some (.int .i64 r.node) := hr 6 _ rfl
       have x7 : wi.cell? ⟨e1, o1 + k * 15 + 7, none⟩ = some (.int .i64 r.count) := hr 7 _ rfl; have x8 : wi.cell? ⟨e1, o1 + k * 15 + 8, none⟩ = some (.int .i64 r.num) := hr 8 _ rfl; have x9 : wi.cell? ⟨e1, o1 + k * 15 + 9, none⟩ = some (.int .i64 r.cell) := hr 9 _ rfl; have x10 : wi.cell? ⟨e1, o1 + k * 15 + 10, none⟩ = some (.int .i64 r.status) := hr 10 _ rfl
       have x11 : wi.cell? ⟨e1, o1 + k * 15 + 11, none⟩ = some (.int .i64 r.hop) := hr 11 _ rfl; have x12 : wi.cell? ⟨e1, o1 + k * 15 + 12, none⟩ = some (.int .i64 r.version) := hr 12 _ rfl; have x13 : wi.cell? ⟨e1, o1 + k * 15 + 13, none⟩ = some (.int .i64 r.value) := hr 13 _ rfl; have x14 : wi.cell? ⟨e1, o1 + k * 15 + 14, none⟩ = some (.bool r.yes) := hr 14 _ rfl; exact Reg.gw hI
      ·obtain ⟨_, rfl, e60⟩ := hd 3 60; have hf := hE.func
       refine Reg.Gives.call (f := 14) (args := #[.agg #[.int .i64 r.kind, .int .i64 r.tid.node, .int .i64 r.tid.epoch, .int .i64 r.tid.seq, .slice z1.A r.items.length z1.c, .slice z1.B r.nodes.length z1.d, .int .i64 r.node, .int .i64 r.count, .int .i64 r.num, .int .i64 r.cell, .int .i64 r.status, .int .i64 r.hop, .int .i64 r.version, .int .i64 r.value, .bool r.yes]]) (w' := wi) (by go_simp) ?_
       refine (HPL.out wi).mono ?_
       rintro e w'' ⟨rfl, hbb⟩
       exact ⟨_, rfl, ⟨rfl, hI.trans (hbb.mono hI.size), fun j u _ _ h => la16_later hbb h⟩⟩
      ·have e12 : ρ (.tmp 12) = .slice (some ⟨e2, o2, none⟩) n cb := hs 12; exact Reg.gw hI
      ·have e13 : ρ (.tmp 13) = .int .i64 (k : Int) := hs 13; exact Reg.gw hI
      ·obtain ⟨_, rfl, e62⟩ := hd 5 62; obtain ⟨_, rfl, e63⟩ := hd 6 63; have hx1 := HJ.out.1; have hx2 := HJ.out.2; exact Reg.gw hI
      ·obtain ⟨_, rfl, e64⟩ := hd 7 64; have hr := range_later HRB.out hI; have x0 : wi.cell? ⟨e2, o2 + k * 15, none⟩ = some (.int .i64 r.kind) := hr 0 _ rfl; have x1 : wi.cell? ⟨e2, o2 + k * 15 + 1, none⟩ = some (.int .i64 r.tid.node) := hr 1 _ rfl; have x2 : wi.cell? ⟨e2, o2 + k * 15 + 2, none⟩ = some (.int .i64 r.tid.epoch) := hr 2 _ rfl
       have x3 : wi.cell? ⟨e2, o2 + k * 15 + 3, none⟩ = some (.int .i64 r.tid.seq) := hr 3 _ rfl; have x4 : wi.cell? ⟨e2, o2 + k * 15 + 4, none⟩ = some (.slice z2.A r.items.length z2.c) := hr 4 _ rfl; have x5 : wi.cell? ⟨e2, o2 + k * 15 + 5, none⟩ = some (.slice z2.B r.nodes.length z2.d) := hr 5 _ rfl; have x6 : wi.cell? ⟨e2, o2 + k * 15 + 6, none⟩ = some (.int .i64 r.node) := hr 6 _ rfl
       have x7 : wi.cell? ⟨e2, o2 + k * 15 + 7, none⟩ = some (.int .i64 r.count) := hr 7 _ rfl; have x8 : wi.cell? ⟨e2, o2 + k * 15 + 8, none⟩ = some (.int .i64 r.num) := hr 8 _ rfl; have x9 : wi.cell? ⟨e2, o2 + k * 15 + 9, none⟩ = some (.int .i64 r.cell) := hr 9 _ rfl; have x10 : wi.cell? ⟨e2, o2 + k * 15 + 10, none⟩ = some (.int .i64 r.status) := hr 10 _ rfl
       have x11 : wi.cell? ⟨e2, o2 + k * 15 + 11, none⟩ = some (.int .i64 r.hop) := hr 11 _ rfl; have x12 : wi.cell? ⟨e2, o2 + k * 15 + 12, none⟩ = some (.int .i64 r.version) := hr 12 _ rfl; have x13 : wi.cell? ⟨e2, o2 + k * 15 + 13, none⟩ = some (.int .i64 r.value) := hr 13 _ rfl; have x14 : wi.cell? ⟨e2, o2 + k * 15 + 14, none⟩ = some (.bool r.yes) := hr 14 _ rfl; exact Reg.gw hI
      ·obtain ⟨_, rfl, e61⟩ := hd 4 61; obtain ⟨_, rfl, e65⟩ := hd 8 65; have hf := hE.func
       refine Reg.Gives.call (f := 30) (args := #[.agg #[.int .i64 r.kind, .int .i64 r.tid.node, .int .i64 r.tid.epoch, .int .i64 r.tid.seq, .slice z1.A r.items.length z1.c, .slice z1.B r.nodes.length z1.d, .int .i64 r.node, .int .i64 r.count, .int .i64 r.num, .int .i64 r.cell, .int .i64 r.status, .int .i64 r.hop, .int .i64 r.version, .int .i64 r.value, .bool r.yes], .agg #[.int .i64 r.kind, .int .i64 r.tid.node, .int .i64 r.tid.epoch, .int .i64 r.tid.seq, .slice z2.A r.items.length z2.c, .slice z2.B r.nodes.length z2.d, .int .i64 r.node, .int .i64 r.count, .int .i64 r.num, .int .i64 r.cell, .int .i64 r.status, .int .i64 r.hop, .int .i64 r.version, .int .i64 r.value, .bool r.yes]]) (w' := wi) (by go_simp) ?_
       refine (HSM.out wi hI).mono ?_
       rintro e w'' ⟨⟨v', rfl, hv'⟩, hbb⟩
       obtain rfl : v' = true := hv'.2 (by trivial)
       exact ⟨_, rfl, ⟨rfl, hI.trans (hbb.mono hI.size), fun j u _ _ h => la16_later hbb h⟩⟩
      ·obtain ⟨_, rfl, e66⟩ := hd 9 66; exact Reg.gw hI
     ·intro V wa hV hI
      have hV10 : V 10 = .bool false := hV 10 (by decide) rfl
      simp only [Reg.putsO, List.foldl_cons, List.foldl_nil, Act.put, List.setIfInBounds_toArray, List.set_cons_succ, List.set_cons_zero, hV10]
      replace hI : (fun a => Below wr.heap.size wr a) wa := hI
      clear hV hV10
      have HW := Lib.hid (HB.out.trans (hI.mono HB.out.size))
      clear hI
      go_wp2_with fail
      go_roundw
      case rel => exact ⟨k + 1, by omega, by go_num, HW⟩
      case measure => simp [intOf]; omega
    ·have HALr := Lib.hid (HALb.out.later HB.out)
     have HAP := Lib.hid (Apply_any t z L zs1 A1 ca 0 wr HALr.out.see9 HZF.out (HREb.out.later HB.out) HRS.out (by have := HN.out; omega))
     rw [HAG.out, HN.out] at HAP
     simp only at HAP
     unfold St.val at HAP
     have hcx := HALr.out.box9
     unfold St.vals at hcx
     have q0 := hcx.cell (j := 0) rfl
     have q1 := hcx.cell (j := 1) rfl
     have q2 := hcx.cell (j := 2) rfl
     have q3 := hcx.cell (j := 3) rfl
     have q4 := hcx.cell (j := 4) rfl
     have q5 := hcx.cell (j := 5) rfl
     have q6 := hcx.cell (j := 6) rfl
     have q7 := hcx.cell (j := 7) rfl
     clear hcx
     go_wp2_with fail
     clear q0 q1 q2 q3 q4 q5 q6 q7
     refine HAP.out.mono ?_
     rintro e wc ⟨⟨yu, rfl, hstu⟩, hbc⟩
     obtain ⟨wd, hwd⟩ : ∃ v, v = wc.alloc (.cells #[.int .i64 s.node, .int .i64 s.nodes, .int .i64 s.cells, .int .i64 s.epoch, .slice yu.P s.places.length yu.p, .slice yu.Q s.prep.length yu.q, .slice yu.D s.dec.length yu.d, .slice yu.C s.com.length yu.c] 32) := ⟨_, rfl⟩
     have hbd : Below wc.heap.size wc wd := by rw [hwd]; exact below_alloc _ _
     have HALd := Lib.hid (HALr.out.later (hbc.trans (hbd.mono hbc.size)))
     have HUd : Hid (Cells wd wc.heap.size 32 (s.vals yu)) := Lib.hid (by rw [hwd]; exact cells_new _ _ _ _ rfl)
     have HSU := Lib.hid (hstu.sees.later hbd)
     obtain ⟨b14, hb14⟩ : ∃ b, wc.heap.size = b := ⟨_, rfl⟩
     rw [hb14] at HUd
     clear hstu hbc hbd HAP HALr
     go_upto_region 20 with (fail)
     rw [← hwd]
     try rw [hb14]
     clear hwd hb14
     obtain ⟨wr, hwr⟩ : ∃ q, q = wd := ⟨_, rfl⟩
     rw [← hwr] at HALd HUd HSU ⊢
     clear hwr
     have HQ14 : Hid (∀ wi, Below wr.heap.size wr wi → Cells wi b14 32 [.int .i64 s.node, .int .i64 s.nodes, .int .i64 s.cells, .int .i64 s.epoch, .slice yu.P s.places.length yu.p, .slice yu.Q s.prep.length yu.q, .slice yu.D s.dec.length yu.d, .slice yu.C s.com.length yu.c]) := Lib.hid (fun wi hi => HUd.out.later hi)
     have HQ7 : Hid (∀ wi, Below wr.heap.size wr wi → Cells wi b7 32 [.int .i64 s.node, .int .i64 s.nodes, .int .i64 s.cells, .int .i64 s.epoch, .slice y.P s.places.length y.p, .slice y.Q s.prep.length y.q, .slice y.D s.dec.length y.d, .slice y.C s.com.length y.c]) := Lib.hid (fun wi hi => HALd.out.box7.later hi)
     have HP14 : Hid (∀ wi, Below wr.heap.size wr wi → Calls Tryz.prog 11 #[.agg #[.int .i64 s.node, .int .i64 s.nodes, .int .i64 s.cells, .int .i64 s.epoch, .slice yu.P s.places.length yu.p, .slice yu.Q s.prep.length yu.q, .slice yu.D s.dec.length yu.d, .slice yu.C s.com.length yu.c]] wi fun e w' => (∃ z, e = .returned (s.val z) ∧ Sees w' s z) ∧ Below wi.heap.size wi w') := Lib.hid (fun wi hi => plainS_any s yu wi (HSU.out.later hi) HSS.out)
     have HP7 : Hid (∀ wi, Below wr.heap.size wr wi → Calls Tryz.prog 11 #[.agg #[.int .i64 s.node, .int .i64 s.nodes, .int .i64 s.cells, .int .i64 s.epoch, .slice y.P s.places.length y.p, .slice y.Q s.prep.length y.q, .slice y.D s.dec.length y.d, .slice y.C s.com.length y.c]] wi fun e w' => (∃ z, e = .returned (s.val z) ∧ Sees w' s z) ∧ Below wi.heap.size wi w') := Lib.hid (fun wi hi => plainS_any s y wi (HALd.out.see7.later hi) HSS.out)
     refine Reg.region_heavy (by kernel_rfl) 9 [9] (la20 (.agg #[.int .i64 s.node, .int .i64 s.nodes, .int .i64 s.cells, .int .i64 s.epoch, .slice yu.P s.places.length yu.p, .slice yu.Q s.prep.length yu.q, .slice yu.D s.dec.length yu.d, .slice yu.C s.com.length yu.c]) (.agg #[.int .i64 s.node, .int .i64 s.nodes, .int .i64 s.cells, .int .i64 s.epoch, .slice y.P s.places.length y.p, .slice y.Q s.prep.length y.q, .slice y.D s.dec.length y.d, .slice y.C s.com.length y.c]) s) (fun a => Below wr.heap.size wr a) (fun a => Below wr.heap.size wr a) (fun V => [(some 75, V 0), (some 76, V 1), (some 77, V 2), (some 78, V 3), (some 79, V 4), (some 80, V 5), (some 81, V 6), (some 82, V 7), (some 83, V 8), (some 6, V 9)]) (by kernel_rfl) (by kernel_rfl) (by kernel_rfl) (fun V => rfl) ?_ ?_ ?_
     ·exact (Below.refl _ _).drew
     ·intro i o ho
      have hi : i < 10 := (Array.getElem?_eq_some_iff.1 ho).1
      rcases i with _ | _ | _ | _ | _ | _ | _ | _ | _ | _ | i
      rotate_right
      ·omega
      all_goals obtain rfl := Option.some.inj ho
      all_goals intro ρ wi hE hI hs hd
      all_goals try dsimp only at hI
      ·have e15 : ρ (.tmp 15) = .int .i64 0 := hs 15; exact Reg.gw hI
      ·obtain ⟨_, rfl, e75⟩ := hd 0 75; have hc := hE.const; exact Reg.gw hI
      ·obtain ⟨_, rfl, e76⟩ := hd 1 76; exact Reg.gw hI
      ·have e14 : ρ (.tmp 14) = .pointer (some ⟨b14, 0, none⟩) := hs 14
       refine Reg.yes ?_
       have hcq := HQ14.out wi hI; have q0 := hcq.cell (j := 0) rfl; have q1 := hcq.cell (j := 1) rfl; have q2 := hcq.cell (j := 2) rfl; have q3 := hcq.cell (j := 3) rfl; have q4 := hcq.cell (j := 4) rfl; have q5 := hcq.cell (j := 5) rfl; have q6 := hcq.cell (j := 6) rfl; have q7 := hcq.cell (j := 7) rfl; exact Reg.gw hI
      ·obtain ⟨_, rfl, e78⟩ := hd 3 78; have hf := hE.func
       refine Reg.yes ?_
       refine Reg.Gives.call (f := 11) (args := #[.agg #[.int .i64 s.node, .int .i64 s.nodes, .int .i64 s.cells, .int .i64 s.epoch, .slice yu.P s.places.length yu.p, .slice yu.Q s.prep.length yu.q, .slice yu.D s.dec.length yu.d, .slice yu.C s.com.length yu.c]]) (w' := wi) (by go_simp) ?_
       refine (HP14.out wi hI).mono ?_
       rintro e w'' ⟨⟨zz, rfl, hz⟩, hbb⟩
       exact ⟨_, rfl, ⟨⟨zz, rfl, hz⟩, hI.trans (hbb.mono hI.size), fun j u _ _ h => la20_later hbb h⟩⟩
      ·have e7 : ρ (.tmp 7) = .pointer (some ⟨b7, 0, none⟩) := hs 7
       refine Reg.yes ?_
       have hcq := HQ7.out wi hI; have q0 := hcq.cell (j := 0) rfl; have q1 := hcq.cell (j := 1) rfl; have q2 := hcq.cell (j := 2) rfl; have q3 := hcq.cell (j := 3) rfl; have q4 := hcq.cell (j := 4) rfl; have q5 := hcq.cell (j := 5) rfl; have q6 := hcq.cell (j := 6) rfl; have q7 := hcq.cell (j := 7) rfl; exact Reg.gw hI
      ·obtain ⟨_, rfl, e80⟩ := hd 5 80; have hf := hE.func
       refine Reg.yes ?_
       refine Reg.Gives.call (f := 11) (args := #[.agg #[.int .i64 s.node, .int .i64 s.nodes, .int .i64 s.cells, .int .i64 s.epoch, .slice y.P s.places.length y.p, .slice y.Q s.prep.length y.q, .slice y.D s.dec.length y.d, .slice y.C s.com.length y.c]]) (w' := wi) (by go_simp) ?_
       refine (HP7.out wi hI).mono ?_
       rintro e w'' ⟨⟨zz, rfl, hz⟩, hbb⟩
       exact ⟨_, rfl, ⟨⟨zz, rfl, hz⟩, hI.trans (hbb.mono hI.size), fun j u _ _ h => la20_later hbb h⟩⟩
      ·obtain ⟨u79, g79, e79⟩ := hd 4 79; obtain ⟨u81, g81, e81⟩ := hd 6 81; have hf := hE.func
       refine Reg.yes ?_
       obtain ⟨q1, rfl, hz1⟩ := g79; obtain ⟨q2, rfl, hz2⟩ := g81
       refine Reg.Gives.call (f := 10) (args := #[s.val q1, s.val q2]) (w' := wi) (by go_simp) ?_
       refine (sameS_any s s q1 q2 wi hz1 hz2 HSS.out).mono ?_
       rintro e w'' ⟨⟨v', rfl, hv'⟩, hbb⟩
       obtain rfl : v' = true := hv'.2 rfl; exact ⟨_, rfl, ⟨rfl, hI.trans (hbb.mono hI.size), fun j u _ _ h => la20_later hbb h⟩⟩
      ·obtain ⟨_, rfl, e77⟩ := hd 2 77; obtain ⟨_, rfl, e82⟩ := hd 7 82; have hc := hE.const; exact Reg.gw hI
      ·obtain ⟨_, rfl, e83⟩ := hd 8 83; exact Reg.gw hI
     ·intro V wa hV hI
      have hV9 : V 9 = .bool true := hV 9 (by decide) rfl
      simp only [Reg.putsO, List.foldl_cons, List.foldl_nil, Act.put, List.setIfInBounds_toArray, List.set_cons_succ, List.set_cons_zero, hV9]
      replace hI : (fun a => Below wr.heap.size wr a) wa := hI
      clear hV hV9
      have HW := Lib.hid (HALd.out.low.trans (hI.mono HALd.out.low.size))
      clear hI
      go_wp2_with fail
      go_returns
      exact ⟨rfl, HW.out⟩
theorem opened {H : Type} {enc : TypeId × Value → H} {W : World} {base : Nat} {gs : List (DataW H)} (v0 : Value) (d0 : DataW H) (p0 : List MemPlace) (v1 : Value) (d1 : DataW H) (p1 : List MemPlace) (v2 : Value) (d2 : DataW H) (p2 : List MemPlace)
  (o0 : Value.okWide Tryz.prog W .any base 23 v0) (t0 : DataW.Trod enc Tryz.prog W 0 (fun _ => true) true 23 v0 d0 p0)
  (o1 : Value.okWide Tryz.prog W .any base 23 v1) (t1 : DataW.Trod enc Tryz.prog W 0 (fun _ => true) true 23 v1 d1 p1)
  (o2 : Value.okWide Tryz.prog W .any base 24 v2) (t2 : DataW.Trod enc Tryz.prog W 0 (fun _ => true) true 24 v2 d2 p2)
  (_hsz : (DataW.weightsEach Tryz.prog ([23, 23, 24] ++ []) ([d0, d1, d2] ++ gs)).all (· ≤ reachBytes) = true) :
  Calls Tryz.prog 5 #[v0, v1, v2] W fun e W' => e = .returned (.bool true) ∧ Below W.heap.size W W' := by
 obtain ⟨b1, b2, b3, rfl, _, _, _⟩ := open_begin o0 t0
 obtain ⟨c1, c2, c3, rfl, _, _, _⟩ := open_begin o1 t1
 obtain ⟨A, l, zs, cap, rfl, hr, hl, hs, _⟩ := open_recs o2 t2
 exact walk b1 b2 b3 c1 c2 c3 A l zs cap W hr hl hs
theorem contract (H : Type) (enc : TypeId × Value → H) (W : World) (base : Nat) (args : Array Value) (ds gs : List (DataW H)) (before : List MemPlace)
  (hval : ∀ (j : Nat) t v, Tryz.f5.params[j]? = some t → args[j]? = some v → Value.okWide Tryz.prog W .any base t v)
  (hW : DataW.Whole enc Tryz.prog Tryz.f5.params.toList Rows.ledgerAgainSpec.vars false W args.toList ds gs before)
  (hsz : (DataW.weightsEach Tryz.prog (Tryz.f5.params.toList ++ []) (ds ++ gs)).all (· ≤ reachBytes) = true) :
  Calls Tryz.prog 5 args W fun e W' => ∃ v, e = .returned v ∧ Rows.ledgerAgainSpec.post enc Tryz.prog Tryz.f5 false true false false W args v W' := by
 have hW0 := hW
 obtain ⟨p, q, hA0, hV, rfl, _, _⟩ := hW
 have hA : DataW.TrodAll enc Tryz.prog W 0 (fun _ => true) true Tryz.f5.params.toList args.toList ds p := hA0
 rw [Tryz.params5] at hA hval hsz
 obtain ⟨v0, vs0, d0, ds0, p0, q0, hargs, rfl, rfl, h0, r0⟩ := trodAll_cons hA
 obtain ⟨v1, vs1, d1, ds1, p1, q1, rfl, rfl, rfl, h1, r1⟩ := trodAll_cons r0
 obtain ⟨v2, vs2, d2, ds2, p2, q2, rfl, rfl, rfl, h2, r2⟩ := trodAll_cons r1
 obtain ⟨rfl, rfl, rfl⟩ := trodAll_nil r2
 obtain rfl : args = #[v0, v1, v2] := by cases args; simp_all
 refine (opened v0 d0 p0 v1 d1 p1 v2 d2 p2 (hval 0 23 v0 rfl rfl) h0 (hval 1 23 v1 rfl rfl) h1 (hval 2 24 v2 rfl rfl) h2 hsz).mono fun e W' ⟨he, hb⟩ => ⟨_, he, ?_⟩
 exact Base.law_post (tb := 4) Base.laidOut (by kernel_rfl) rfl Tryz.underlying4 rfl (fun l hl => by
  rw [Tryz.params5] at hl
  match l, hl with
  | [_, _, _], _ => rfl) (by rw [Tryz.params5]; rfl) hW0 hb
theorem laid_met (os : Os) : laidMet Tryz.prog Rows.ledgerAgainRow.laid ((Base.plainWorld os).forCall (fun _ _ => 0) ⟨#[], #[.agg #[.int .i64 0, .int .i64 0, .int .i64 0], .agg #[.int .i64 0, .int .i64 0, .int .i64 0], .slice none 0 0], []⟩).memory := laidMet_nil _ _
theorem reads (os : Os) {H : Type} (enc : TypeId × Value → H) : ∃ places, DataW.whole enc Tryz.prog ((Base.plainWorld os).forCall (fun _ _ => 0) ⟨#[], #[.agg #[.int .i64 0, .int .i64 0, .int .i64 0], .agg #[.int .i64 0, .int .i64 0, .int .i64 0], .slice none 0 0], []⟩).memory Tryz.f5.params.toList Rows.ledgerAgainSpec.vars false (#[.agg #[.int .i64 0, .int .i64 0, .int .i64 0], .agg #[.int .i64 0, .int .i64 0, .int .i64 0], .slice none 0 0] : Array Value).toList 8 = some ([.agg [.lit (.int .i64 0), .lit (.int .i64 0), .lit (.int .i64 0)], .agg [.lit (.int .i64 0), .lit (.int .i64 0), .lit (.int .i64 0)], .nil], [], places) :=
 ⟨[], by kernel_rfl⟩
set_option maxRecDepth 100000 in
theorem lifted (os : Os) (started : os.Started) (H : Type) (enc : TypeId × Value → H) (F : Stop.Interp) :
  ReturnsInHanded {} Tryz.checked os 5 .any ((OpenSpec.ofChange Rows.ledgerAgainSpec).preRow enc Tryz.prog Tryz.f5 Rows.ledgerAgainRow.domain false Rows.ledgerAgainRow.laid) (((OpenSpec.ofChange Rows.ledgerAgainSpec).at F).post enc Tryz.prog Tryz.f5 false true false false) := by
 obtain ⟨places, hx⟩ := reads os enc
 refine returnsInHanded_of_row (C := Tryz.checked) (s := OpenSpec.ofChange Rows.ledgerAgainSpec) Base.own started (by kernel_rfl) Tryz.func5
  (witness_row_at (enc := enc) (C := Tryz.checked) false (Base.plainWorld os) #[.agg #[.int .i64 0, .int .i64 0, .int .i64 0], .agg #[.int .i64 0, .int .i64 0, .int .i64 0], .slice none 0 0] rfl (by kernel_rfl) (by kernel_rfl) (by kernel_rfl)
   (OpenSpec.preRow_of_cond 8 hx (by kernel_rfl) (fun k hk => by cases hk) (by kernel_rfl) (laid_met os))) ?_
 intro W base args ds gs before hval hW _ _ hsz _ _ _
 exact contract H enc W base args ds gs before hval hW hsz
theorem said : Rows.LedgerAgainSaid :=
 OpenClaim.holds_of_cond 5 Tryz.f5 rfl rfl rfl rfl rfl rfl rfl ⟨rfl, rfl, rfl, rfl, rfl⟩ rfl rfl rfl rfl rfl (by kernel_rfl) Tryz.func5 (by kernel_rfl)
  (of_decide_eq_true (by kernel_rfl)) (by unfold Func.isWrapper; rw [if_neg (of_decide_eq_false (by kernel_rfl))]; exact ⟨rfl, rfl⟩)
  (fun os started H enc _ F => by rw [OpenClaim.pre_eq_preRow]; exact lifted os started H enc F)
#print axioms said
end Go.Proofs.YtalhbblmnahcdaaGreat.LedgerAgain
