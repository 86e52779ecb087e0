/-
  Layer 7: a record's bytes: the code. Conditions: none.
-/
import Derived.Test.YtdmekfeggdodnaaRecPut
namespace Go.Proofs.Ytdmekfeggdodnaa.Rec
set_option maxRecDepth 100000
open Go.RowKit Go.Proofs.Ytdmekfeggdodnaa.Mem Go.Proofs.Ytdmekfeggdodnaa.Item Go.Proofs.Ytdmekfeggdodnaa.Wire

def bytesR (r : Rc) : List UInt8 := UInt8.ofNat r.kind.toNat :: bodyB r (fl r.kind)
def enc (r : Rc) : List UInt8 × Int := if right r then (bytesR r, 0) else ([], 1)
theorem right_kind {r : Rc} (h : right r = true) : 1 ≤ r.kind ∧ r.kind ≤ 12 := by
  unfold right at h
  simp only [Bool.and_eq_true, decide_eq_true_eq] at h
  exact h.1.1
theorem kind_u8 (k : Int) (h : 1 ≤ k ∧ k ≤ 12) : bv (UInt8.ofNat k.toNat) = .int .u8 k := by
  unfold bv
  congr 1
  simp only [UInt8.toNat_ofNat']
  omega

set_option maxHeartbeats 1000000 in
theorem encode_any (r : Rc) (y : Lay) (w : World) (h : Has w r y) (h1 : r.items.length ≤ 100) (h2 : r.nodes.length ≤ 100) :
    Calls Try.prog 20 #[r.val y] w fun e w' => e = .returned (.tuple #[.string (bs (enc r).1), .int .i64 (enc r).2]) ∧ Below w.heap.size w w' := by
  have HR := Lib.hid (fun w' (hb : Below w.heap.size w w') => right_any r y w' (h.later hb) (by omega) (by omega))
  have HFL := Lib.hid (fun w' => fields_any r.kind w')
  have HI := Lib.hid (fun g rr (hg : w.heap.size ≤ g) (hr : ∀ k, rr = some k → w.heap.size ≤ k) => (show (0 < r.items.length → Off y.A g rr) ∧ (0 < r.nodes.length → Off y.B g rr) from
    ⟨fun h0 b off e => by have := Items.low h.items h0 b off e; exact ⟨by omega, fun e2 => by have := hr b e2; omega⟩,
     fun h0 b off e => by have := Nums.low h.nodes h0 b off e; exact ⟨by omega, fun e2 => by have := hr b e2; omega⟩⟩))
  have HP := Lib.hid (fun w' base g rr A0 c0 pre (hb : Below w.heap.size w w') (hw : Wr w' base g rr (some pre)) (hp : pre.length ≤ 1000) (hl : Nums w' A0 (fl r.kind)) (hoL : 0 < (fl r.kind).length → Off A0 g rr) (ho : (0 < r.items.length → Off y.A g rr) ∧ (0 < r.nodes.length → Off y.B g rr)) =>
    put_any r y A0 (fl r.kind) c0 w' base g rr pre hw hp (h.later hb) h1 h2 ho.1 ho.2 hl hoL (fl_at r.kind) (fl_len r.kind))
  by_cases hR : right r = true
  · have hk := right_kind hR
    have HU := Lib.hid (kind_u8 r.kind hk)
    have HE : Hid ((enc r).1 = UInt8.ofNat r.kind.toNat :: bodyB r (fl r.kind) ∧ (enc r).2 = 0) := Lib.hid (by unfold enc; rw [if_pos hR]; exact ⟨rfl, rfl⟩)
    rw [hR] at HR
    clear hR h
    obtain ⟨E, hE⟩ : ∃ E, enc r = E := ⟨_, rfl⟩
    obtain ⟨BB, hBB⟩ : ∃ BB, bodyB r = BB := ⟨_, rfl⟩
    rw [hE] at HE ⊢
    simp only [hBB] at HP HE
    clear hE hBB
    obtain ⟨E1, E2⟩ := E
    obtain ⟨k, ⟨t1, t2, t3⟩, its, nds, a0, a1, a2, a3, a4, a5, a6, a7, yes⟩ := r
    obtain ⟨A, c, B, d⟩ := y
    simp only at HFL HI HP HU HE hk h1 h2
    obtain ⟨F, hF⟩ : ∃ F, fl k = F := ⟨_, rfl⟩
    rw [hF] at HFL HE
    simp only [hF] at HP
    clear hF
    generalize hLL : its.length = L at *
    generalize hMM : nds.length = M at *
    unfold Rc.val at HR HP ⊢
    simp only [hLL, hMM] at HR HP ⊢
    clear hLL hMM
    have HB := Lib.hid (below_alloc w (.cells #[.int .i64 k, .int .i64 t1, .int .i64 t2, .int .i64 t3, .slice A L c, .slice B M d, .int .i64 a0, .int .i64 a1, .int .i64 a2, .int .i64 a3, .int .i64 a4, .int .i64 a5, .int .i64 a6, .int .i64 a7, .bool yes] 35))
    have HC := Lib.hid (cells_new w 35 _ #[.int .i64 k, .int .i64 t1, .int .i64 t2, .int .i64 t3, .slice A L c, .slice B M d, .int .i64 a0, .int .i64 a1, .int .i64 a2, .int .i64 a3, .int .i64 a4, .int .i64 a5, .int .i64 a6, .int .i64 a7, .bool yes] rfl)
    go_enter Try.func20, Try.ntmps20
    go_wp2_with fail
    refine (HR.out _ HB.out).mono ?_
    rintro e w1 ⟨rfl, hb1⟩
    have HB1 := Lib.hid (HB.out.trans (hb1.mono HB.out.size))
    have HC1 := Lib.hid (HC.out.later hb1)
    have hw2 := wr_new' w1 w.heap.size 85 HB1.out.size
    have hb2 := below_alloc w1 (.cells #[.slice none 0 0, .bool false] 85)
    have hc2 := HC1.out.later hb2
    have q0 := hc2.cell (j := 0) rfl
    have hsz : w.heap.size < w1.heap.size := HC1.out.lt
    have HSZ := Lib.hid hsz
    obtain ⟨wx, hwx⟩ : ∃ wx, wx = (w1.alloc (.cells #[.slice none 0 0, .bool false] 85)).alloc (.cells #[.int .u8 k] 5) := ⟨_, rfl⟩
    have hb3 := below_alloc (w1.alloc (.cells #[.slice none 0 0, .bool false] 85)) (.cells #[.int .u8 k] 5)
    have HWX : Hid (Wr wx w.heap.size w1.heap.size none (some [])) := Lib.hid (by rw [hwx]; exact hw2.later hb3)
    have HCX : Hid (Cells wx w.heap.size 35 _) := Lib.hid (by rw [hwx]; exact hc2.later hb3)
    have HBX : Hid (Below w.heap.size w wx) := Lib.hid (by rw [hwx]; exact (HB1.out.alloc HB1.out.size _).alloc (Nat.le_trans HB1.out.size (by simp)) _)
    have HUX : Hid (wx.cell? ⟨w1.heap.size + 1, 0, none⟩ = some (.int .u8 k)) := Lib.hid (by
      rw [hwx]
      have h7 := (cells_new (w1.alloc (.cells #[.slice none 0 0, .bool false] 85)) 5 _ #[.int .u8 k] rfl).cell (j := 0) rfl
      rw [show (w1.alloc (.cells #[.slice none 0 0, .bool false] 85)).heap.size = w1.heap.size + 1 by simp] at h7
      exact h7)
    clear hb1 hw2 hb2 hc2 hb3
    go_wp2_with fail
    rw [← hwx]
    clear hwx q0
    refine (byte_any wx w.heap.size w1.heap.size none (some []) [UInt8.ofNat k.toNat] ⟨w1.heap.size + 1, 0, none⟩ 1 HWX.out (fun j u hu => ?_) (by simp)).mono ?_
    · rcases j with _ | j
      · rw [addr_add]
        rw [List.map_cons, List.getElem?_cons_zero, HU.out] at hu
        rw [← hu]
        exact HUX.out
      · simp at hu
    rintro e w4 ⟨rfl, r4, hw4, ht4⟩
    replace hw4 : Wr w4 w.heap.size w1.heap.size r4 (some [UInt8.ofNat k.toNat]) := hw4
    have hc4 : Cells w4 w.heap.size 35 _ := cells_only HCX.out ht4.1 (by
      rintro (e | e)
      · omega
      · cases e)
    have hb4 := HBX.out.trans (Turn.low ht4 (Nat.le_of_lt hsz) (fun k e => by cases e) HBX.out.size)
    have HB4 := Lib.hid hb4
    have HC4 := Lib.hid hc4
    have HW4 := Lib.hid hw4
    have HL4 := Lib.hid hw4.lt
    have q0 := hc4.cell (j := 0) rfl
    clear hb4 hc4 hw4 ht4
    go_wp2_with fail
    refine (HFL.out _).mono ?_
    rintro e w5 ⟨FA, fc, rfl, hnu, hfr, hb5⟩
    rw [decide_eq_true hk]
    have hc5 := HC4.out.later hb5
    have HB5 := Lib.hid (HB4.out.trans (hb5.mono HB4.out.size))
    have HW5 := Lib.hid (HW4.out.later hb5)
    have HNU := Lib.hid hnu
    have HFR := Lib.hid hfr
    clear hb5 hnu hfr q0
    have q0 := hc5.cell (j := 0) rfl
    have q1 := hc5.cell (j := 1) rfl
    have q2 := hc5.cell (j := 2) rfl
    have q3 := hc5.cell (j := 3) rfl
    have q4 := hc5.cell (j := 4) rfl
    have q5 := hc5.cell (j := 5) rfl
    have q6 := hc5.cell (j := 6) rfl
    have q7 := hc5.cell (j := 7) rfl
    have q8 := hc5.cell (j := 8) rfl
    have q9 := hc5.cell (j := 9) rfl
    have q10 := hc5.cell (j := 10) rfl
    have q11 := hc5.cell (j := 11) rfl
    have q12 := hc5.cell (j := 12) rfl
    have q13 := hc5.cell (j := 13) rfl
    have q14 := hc5.cell (j := 14) rfl
    clear hc5
    go_wp2_with fail
    refine (HP.out w5 w.heap.size w1.heap.size r4 FA fc [UInt8.ofNat k.toNat] HB5.out HW5.out (by simp) HNU.out (fun _ b off e => ?_) (HI.out w1.heap.size r4 (Nat.le_of_lt HSZ.out) HW4.out.own.2)).mono ?_
    · have h3 := HFR.out b off e
      have h4 := HL4.out.1
      exact ⟨by omega, fun e2 => by have := HL4.out.2 b e2; omega⟩
    rintro e w6 ⟨rfl, r6, hw6, ht6⟩
    have HB6 := Lib.hid (HB5.out.trans (Turn.low ht6 (Nat.le_of_lt HSZ.out) HW4.out.own.2 HB5.out.size))
    have HS := Lib.hid (string_any w6 w.heap.size w1.heap.size r6 _ hw6)
    clear hw6 ht6 q0 q1 q2 q3 q4 q5 q6 q7 q8 q9 q10 q11 q12 q13 q14
    go_wp2_with fail
    refine HS.out.mono ?_
    rintro e w7 ⟨rfl, rfl⟩
    go_wp2_with fail
    go_returns
    refine ⟨?_, HB6.out⟩
    simp only [HE.out.1, HE.out.2]
    rfl
  · have hR' : right r = false := by simpa using hR
    have HE : Hid ((enc r).1 = [] ∧ (enc r).2 = 1) := Lib.hid (by unfold enc; rw [if_neg hR]; exact ⟨rfl, rfl⟩)
    rw [hR'] at HR
    clear hR hR' h HFL HI HP
    obtain ⟨E, hE⟩ : ∃ E, enc r = E := ⟨_, rfl⟩
    rw [hE] at HE ⊢
    clear hE
    obtain ⟨k, ⟨t1, t2, t3⟩, its, nds, a0, a1, a2, a3, a4, a5, a6, a7, yes⟩ := r
    obtain ⟨A, c, B, d⟩ := y
    generalize hLL : its.length = L at *
    generalize hMM : nds.length = M at *
    unfold Rc.val at HR ⊢
    simp only [hLL, hMM] at HR ⊢
    clear hLL hMM
    have HB := Lib.hid (below_alloc w (.cells #[.int .i64 k, .int .i64 t1, .int .i64 t2, .int .i64 t3, .slice A L c, .slice B M d, .int .i64 a0, .int .i64 a1, .int .i64 a2, .int .i64 a3, .int .i64 a4, .int .i64 a5, .int .i64 a6, .int .i64 a7, .bool yes] 35))
    go_enter Try.func20, Try.ntmps20
    go_wp2_with fail
    refine (HR.out _ HB.out).mono ?_
    rintro e w1 ⟨rfl, hb1⟩
    have HB1 := Lib.hid (HB.out.trans (hb1.mono HB.out.size))
    clear hb1
    go_wp2_with fail
    go_returns
    refine ⟨?_, HB1.out⟩
    simp only [HE.out.1, HE.out.2]
    rfl
end Go.Proofs.Ytdmekfeggdodnaa.Rec
