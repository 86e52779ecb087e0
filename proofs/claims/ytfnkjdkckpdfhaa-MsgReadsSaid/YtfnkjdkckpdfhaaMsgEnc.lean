/-
  Layer 10: a record's bytes: the code. Conditions: none.
-/
import Derived.Test.YtfnkjdkckpdfhaaMsgPut
namespace Go.Proofs.Ytfnkjdkckpdfhaa.Msg
set_option maxRecDepth 100000
open Go.RowKit Go.Proofs.Ytfnkjdkckpdfhaa.Mem Go.Proofs.Ytfnkjdkckpdfhaa.Item Go.Proofs.Ytfnkjdkckpdfhaa.Wire

def bytesR (r : Rc) : List UInt8 := UInt8.ofNat r.kind.toNat :: bodyB r (fl r.kind)
def enc (r : Rc) : List UInt8 × Int := if right r then (bytesR r, 0) else ([], 1)
theorem right_kind {r : Rc} (h : right r = true) : 1 ≤ r.kind ∧ r.kind ≤ 15 := by
  unfold right at h
  simp only [Bool.and_eq_true, decide_eq_true_eq] at h
  exact (fl_pos _).1 h.1.1
theorem kind_u8 (k : Int) (h : 1 ≤ k ∧ k ≤ 15) : bv (UInt8.ofNat k.toNat) = .int .u8 k := by
  unfold bv
  congr 1
  simp only [UInt8.toNat_ofNat']
  omega

def mEncP (s : Nat) (va : Value) (k : Int) (F : List Int) (n4 : Nat) : Nat → Value → World → Prop
  | 0, v, _ => v = va
  | 1, v, _ => v = .pointer (some ⟨s, 0, none⟩)
  | 2, v, _ => v = .int .i64 k
  | 3, v, w => ∃ FA fc, v = .slice FA F.length fc ∧ Nums w FA F ∧ ∀ b off, FA = some ⟨b, off, none⟩ → n4 ≤ b
  | 4, v, _ => v = .tuple #[]
  | _, _, _ => True
theorem mEncP_later {s : Nat} {va : Value} {k : Int} {F : List Int} {n4 : Nat} {j : Nat} {v : Value} {w w' : World} (hb : Below w.heap.size w w') (h : mEncP s va k F n4 j v w) : mEncP s va k F n4 j v w' := by
  match j, h with
  | 0, h | 1, h | 2, h | 4, h => exact h
  | 3, h =>
    obtain ⟨FA, fc, h1, h2, h3⟩ := h
    exact ⟨FA, fc, h1, h2.later hb, h3⟩
  | _ + 5, _ => exact trivial
theorem mEncP_keep {s : Nat} {va : Value} {k : Int} {F : List Int} {n4 : Nat} {j : Nat} {v : Value} {w w' : World} (h3 : j ≠ 3) (h : mEncP s va k F n4 j v w) : mEncP s va k F n4 j v w' := by
  match j, h with
  | 0, h | 1, h | 2, h | 4, h => exact h
  | 3, _ => exact absurd rfl h3
  | _ + 5, _ => exact trivial
set_option maxHeartbeats 1000000 in
theorem encode_any (r : Rc) (y : Lay) (w : World) (h : Has w r y) (h1 : r.items.length ≤ 100) (h2 : r.nodes.length ≤ 100) :
    Calls Try.prog 10 #[r.val y] w fun e w' => e = .returned (.tuple #[.string (bs (enc r).1), .int .i64 (enc r).2]) ∧ Below w.heap.size w w' := by
  have HR := Lib.hid (fun w' (hb : Below w.heap.size w w') => right_any r y w' (h.later hb) (by omega) (by omega))
  have HFL := Lib.hid (fun w' => fields_any r.kind w')
  have HI := Lib.hid (fun g rr (hg : w.heap.size ≤ g) (hr : ∀ k, rr = some k → w.heap.size ≤ k) => (show (0 < r.items.length → Off y.A g rr) ∧ (0 < r.nodes.length → Off y.B g rr) from
    ⟨fun h0 b off e => by have := Items.low h.items h0 b off e; exact ⟨by omega, fun e2 => by have := hr b e2; omega⟩,
     fun h0 b off e => by have := Nums.low h.nodes h0 b off e; exact ⟨by omega, fun e2 => by have := hr b e2; omega⟩⟩))
  have HP := Lib.hid (fun w' base g rr A0 c0 pre (hb : Below w.heap.size w w') (hw : Wr w' base g rr (some pre)) (hp : pre.length ≤ 1000) (hl : Nums w' A0 (fl r.kind)) (hoL : 0 < (fl r.kind).length → Off A0 g rr) (ho : (0 < r.items.length → Off y.A g rr) ∧ (0 < r.nodes.length → Off y.B g rr)) =>
    put_any r y A0 (fl r.kind) c0 w' base g rr pre hw hp (h.later hb) h1 h2 ho.1 ho.2 hl hoL (fl_at r.kind) (fl_len r.kind))
  by_cases hR : right r = true
  · have hk := right_kind hR
    have HU := Lib.hid (kind_u8 r.kind hk)
    have HE : Hid ((enc r).1 = UInt8.ofNat r.kind.toNat :: bodyB r (fl r.kind) ∧ (enc r).2 = 0) := Lib.hid (by unfold enc; rw [if_pos hR]; exact ⟨rfl, rfl⟩)
    rw [hR] at HR
    clear hR h
    obtain ⟨E, hE⟩ : ∃ E, enc r = E := ⟨_, rfl⟩
    obtain ⟨BB, hBB⟩ : ∃ BB, bodyB r = BB := ⟨_, rfl⟩
    rw [hE] at HE ⊢
    simp only [hBB] at HP HE
    clear hE hBB
    obtain ⟨E1, E2⟩ := E
    obtain ⟨k, ⟨t1, t2, t3⟩, its, nds, a0, a1, a2, a3, a4, a5, yes⟩ := r
    obtain ⟨A, c, B, d⟩ := y
    simp only at HFL HI HP HU HE hk h1 h2
    obtain ⟨F, hF⟩ : ∃ F, fl k = F := ⟨_, rfl⟩
    rw [hF] at HFL HE
    simp only [hF] at HP
    clear hF
    generalize hLL : its.length = L at *
    generalize hMM : nds.length = M at *
    unfold Rc.val at HR HP ⊢
    simp only [hLL, hMM] at HR HP ⊢
    clear hLL hMM
    have HB := Lib.hid (below_alloc w (.cells #[.int .i64 k, .int .i64 t1, .int .i64 t2, .int .i64 t3, .slice A L c, .slice B M d, .int .i64 a0, .int .i64 a1, .int .i64 a2, .int .i64 a3, .int .i64 a4, .int .i64 a5, .bool yes] 27))
    have HC := Lib.hid (cells_new w 27 _ #[.int .i64 k, .int .i64 t1, .int .i64 t2, .int .i64 t3, .slice A L c, .slice B M d, .int .i64 a0, .int .i64 a1, .int .i64 a2, .int .i64 a3, .int .i64 a4, .int .i64 a5, .bool yes] rfl)
    go_enter Try.func10, Try.ntmps10
    go_wp2_with fail
    refine (HR.out _ HB.out).mono ?_
    rintro e w1 ⟨rfl, hb1⟩
    have HB1 := Lib.hid (HB.out.trans (hb1.mono HB.out.size))
    have HC1 := Lib.hid (HC.out.later hb1)
    have hw2 := wr_new' w1 w.heap.size 54 HB1.out.size
    have hb2 := below_alloc w1 (.cells #[.slice none 0 0, .bool false] 54)
    have hc2 := HC1.out.later hb2
    have q0 := hc2.cell (j := 0) rfl
    have hsz : w.heap.size < w1.heap.size := HC1.out.lt
    have HSZ := Lib.hid hsz
    obtain ⟨wx, hwx⟩ : ∃ wx, wx = (w1.alloc (.cells #[.slice none 0 0, .bool false] 54)).alloc (.cells #[.int .u8 k] 5) := ⟨_, rfl⟩
    have hb3 := below_alloc (w1.alloc (.cells #[.slice none 0 0, .bool false] 54)) (.cells #[.int .u8 k] 5)
    have HWX : Hid (Wr wx w.heap.size w1.heap.size none (some [])) := Lib.hid (by rw [hwx]; exact hw2.later hb3)
    have HCX : Hid (Cells wx w.heap.size 27 _) := Lib.hid (by rw [hwx]; exact hc2.later hb3)
    have HBX : Hid (Below w.heap.size w wx) := Lib.hid (by rw [hwx]; exact (HB1.out.alloc HB1.out.size _).alloc (Nat.le_trans HB1.out.size (by simp)) _)
    have HUX : Hid (wx.cell? ⟨w1.heap.size + 1, 0, none⟩ = some (.int .u8 k)) := Lib.hid (by
      rw [hwx]
      have h7 := (cells_new (w1.alloc (.cells #[.slice none 0 0, .bool false] 54)) 5 _ #[.int .u8 k] rfl).cell (j := 0) rfl
      rw [show (w1.alloc (.cells #[.slice none 0 0, .bool false] 54)).heap.size = w1.heap.size + 1 by simp] at h7
      exact h7)
    clear hb1 hw2 hb2 hc2 hb3
    go_wp2_with fail
    rw [← hwx]
    clear hwx q0
    refine (byte_any wx w.heap.size w1.heap.size none (some []) [UInt8.ofNat k.toNat] ⟨w1.heap.size + 1, 0, none⟩ 1 HWX.out (fun j u hu => ?_) (by simp)).mono ?_
    · rcases j with _ | j
      · rw [addr_add]
        rw [List.map_cons, List.getElem?_cons_zero, HU.out] at hu
        rw [← hu]
        exact HUX.out
      · simp at hu
    rintro e w4 ⟨rfl, r4, hw4, ht4⟩
    replace hw4 : Wr w4 w.heap.size w1.heap.size r4 (some [UInt8.ofNat k.toNat]) := hw4
    have hc4 : Cells w4 w.heap.size 27 _ := cells_only HCX.out ht4.1 (by
      rintro (e | e)
      · omega
      · cases e)
    have hb4 := HBX.out.trans (Turn.low ht4 (Nat.le_of_lt hsz) (fun k e => by cases e) HBX.out.size)
    have HB4 := Lib.hid hb4
    have HC4 := Lib.hid hc4
    have HW4 := Lib.hid hw4
    have HR4 : Hid (∀ b, r4 = some b → b < w4.heap.size) := Lib.hid hw4.lt.2
    have HS4 : Hid (w.heap.size ≤ w4.heap.size) := Lib.hid hb4.size
    have HG4 : Hid (w1.heap.size + 1 ≤ w4.heap.size) := Lib.hid hw4.lt.1
    have hq := hc4.cell (j := 0) rfl
    clear hb4 hc4 hw4 ht4 hq
    go_wp2_with fail
    refine Reg.region_heavy (by kernel_rfl) 4 [] (mEncP w.heap.size (.agg #[.int .i64 k, .int .i64 t1, .int .i64 t2, .int .i64 t3, .slice A L c, .slice B M d, .int .i64 a0, .int .i64 a1, .int .i64 a2, .int .i64 a3, .int .i64 a4, .int .i64 a5, .bool yes]) k F w4.heap.size) (fun a => Below w4.heap.size w4 a) (fun a' => ∃ r6, Wr a' w.heap.size w1.heap.size r6 (some ([UInt8.ofNat k.toNat] ++ BB F)) ∧ Turn w4 a' w1.heap.size r4 r6) (fun V => [(some 14, V 0), (some 15, V 1), (some 16, V 2), (some 17, V 3), (some 18, V 4)]) (by kernel_rfl) (by kernel_rfl) (by kernel_rfl) (fun V => rfl) ?_ ?_ ?_
    · exact (Below.refl _ _).drew
    · intro i o ho
      have hi : i < 5 := (Array.getElem?_eq_some_iff.1 ho).1
      rcases i with _ | _ | _ | _ | _ | i
      · obtain rfl := Option.some.inj ho
        intro ρ wi hE hI hs hd
        try dsimp only at hI
        have e1 : ρ (.tmp 1) = .pointer (some ⟨w.heap.size, 0, none⟩) := hs 1 (by kernel_rfl)
        have hc := HC4.out.later hI
        have q0 := hc.cell (j := 0) rfl
        have q1 := hc.cell (j := 1) rfl
        have q2 := hc.cell (j := 2) rfl
        have q3 := hc.cell (j := 3) rfl
        have q4 := hc.cell (j := 4) rfl
        have q5 := hc.cell (j := 5) rfl
        have q6 := hc.cell (j := 6) rfl
        have q7 := hc.cell (j := 7) rfl
        have q8 := hc.cell (j := 8) rfl
        have q9 := hc.cell (j := 9) rfl
        have q10 := hc.cell (j := 10) rfl
        have q11 := hc.cell (j := 11) rfl
        have q12 := hc.cell (j := 12) rfl
        exact Reg.Gives.value (v := (.agg #[.int .i64 k, .int .i64 t1, .int .i64 t2, .int .i64 t3, .slice A L c, .slice B M d, .int .i64 a0, .int .i64 a1, .int .i64 a2, .int .i64 a3, .int .i64 a4, .int .i64 a5, .bool yes])) (w' := wi) (by go_simp) (Reg.OwedH.same hI rfl)
      · obtain rfl := Option.some.inj ho
        intro ρ wi hE hI hs hd
        try dsimp only at hI
        have e1 : ρ (.tmp 1) = .pointer (some ⟨w.heap.size, 0, none⟩) := hs 1 (by kernel_rfl)
        exact Reg.Gives.value (v := .pointer (some ⟨w.heap.size, 0, none⟩)) (w' := wi) (by go_simp) (Reg.OwedH.same hI rfl)
      · obtain rfl := Option.some.inj ho
        intro ρ wi hE hI hs hd
        try dsimp only at hI
        obtain ⟨u15, g15, e15⟩ := hd 1 15 (by kernel_rfl) (by kernel_rfl) (by show _ < 21; decide)
        obtain rfl : u15 = .pointer (some ⟨w.heap.size, 0, none⟩) := g15
        have q0 := (HC4.out.later hI).cell (j := 0) rfl
        exact Reg.Gives.value (v := .int .i64 k) (w' := wi) (by go_simp) (Reg.OwedH.same hI rfl)
      · obtain rfl := Option.some.inj ho
        intro ρ wi hE hI hs hd
        try dsimp only at hI
        obtain ⟨u16, g16, e16⟩ := hd 2 16 (by kernel_rfl) (by kernel_rfl) (by show _ < 21; decide)
        obtain rfl : u16 = .int .i64 k := g16
        have hf := hE.func
        refine Reg.Gives.call (f := 25) (args := #[.int .i64 k]) (w' := wi) (by go_simp) ?_
        refine (HFL.out wi).mono ?_
        rintro e w'' ⟨FA, fc, rfl, hnu, hfr, hbb⟩
        exact ⟨_, rfl, ⟨⟨FA, fc, rfl, hnu, fun b off e => by have := hfr b off e; have := hI.size; omega⟩, hI.trans (hbb.mono hI.size), fun j u _ _ h => mEncP_later hbb h⟩⟩
      · obtain rfl := Option.some.inj ho
        intro ρ wi hE hI hs hd
        try dsimp only at hI
        have e4 : ρ (.tmp 4) = .pointer (some ⟨w1.heap.size, 0, none⟩) := hs 4 (by kernel_rfl)
        obtain ⟨u14, g14, e14⟩ := hd 0 14 (by kernel_rfl) (by kernel_rfl) (by show _ < 21; decide)
        obtain rfl : u14 = (.agg #[.int .i64 k, .int .i64 t1, .int .i64 t2, .int .i64 t3, .slice A L c, .slice B M d, .int .i64 a0, .int .i64 a1, .int .i64 a2, .int .i64 a3, .int .i64 a4, .int .i64 a5, .bool yes]) := g14
        obtain ⟨u17, g17, e17⟩ := hd 3 17 (by kernel_rfl) (by kernel_rfl) (by show _ < 21; decide)
        have hf := hE.func
        obtain ⟨FA, fc, rfl, hnu, hfr⟩ := g17
        refine Reg.Gives.call (f := 24) (args := #[.pointer (some ⟨w1.heap.size, 0, none⟩), .agg #[.int .i64 k, .int .i64 t1, .int .i64 t2, .int .i64 t3, .slice A L c, .slice B M d, .int .i64 a0, .int .i64 a1, .int .i64 a2, .int .i64 a3, .int .i64 a4, .int .i64 a5, .bool yes], .slice FA F.length fc]) (w' := wi) (by go_simp) ?_
        refine (HP.out wi w.heap.size w1.heap.size r4 FA fc [UInt8.ofNat k.toNat] (HB4.out.trans (hI.mono HB4.out.size)) (HW4.out.later hI) (by simp) hnu (fun _ b off e => ?_) (HI.out w1.heap.size r4 (Nat.le_of_lt HSZ.out) HW4.out.own.2)).mono ?_
        · have h3 := hfr b off e
          have h4 := HG4.out
          exact ⟨by omega, fun e2 => by have := HR4.out b e2; omega⟩
        rintro e w'' ⟨rfl, r6, hw6, ht6⟩
        exact ⟨_, rfl, ⟨rfl, ⟨r6, hw6, Turn.before hI ht6⟩, fun j u _ hal h => mEncP_keep (fun e => by subst e; rw [show Reg.alive _ _ 4 3 = false by kernel_rfl] at hal; cases hal) h⟩⟩
      · omega
    · intro V w6 hV hI
      simp only [Reg.putsO, List.foldl_cons, List.foldl_nil, Act.put, List.setIfInBounds_toArray, List.set_cons_succ, List.set_cons_zero]
      replace hI : (fun a' => ∃ r6, Wr a' w.heap.size w1.heap.size r6 (some ([UInt8.ofNat k.toNat] ++ BB F)) ∧ Turn w4 a' w1.heap.size r4 r6) w6 := hI
      clear hV
      obtain ⟨r6, hw6, ht6⟩ := hI
      have HB6 := Lib.hid (HB4.out.trans (Turn.low ht6 (Nat.le_of_lt HSZ.out) HW4.out.own.2 HB4.out.size))
      have HS := Lib.hid (string_any w6 w.heap.size w1.heap.size r6 _ hw6)
      clear hw6 ht6
      go_wp2_with fail
      refine HS.out.mono ?_
      rintro e w7 ⟨rfl, rfl⟩
      go_wp2_with fail
      go_returns
      refine ⟨?_, HB6.out⟩
      simp only [HE.out.1, HE.out.2]
      rfl
  · have hR' : right r = false := by simpa using hR
    have HE : Hid ((enc r).1 = [] ∧ (enc r).2 = 1) := Lib.hid (by unfold enc; rw [if_neg hR]; exact ⟨rfl, rfl⟩)
    rw [hR'] at HR
    clear hR hR' h HFL HI HP
    obtain ⟨E, hE⟩ : ∃ E, enc r = E := ⟨_, rfl⟩
    rw [hE] at HE ⊢
    clear hE
    obtain ⟨k, ⟨t1, t2, t3⟩, its, nds, a0, a1, a2, a3, a4, a5, yes⟩ := r
    obtain ⟨A, c, B, d⟩ := y
    generalize hLL : its.length = L at *
    generalize hMM : nds.length = M at *
    unfold Rc.val at HR ⊢
    simp only [hLL, hMM] at HR ⊢
    clear hLL hMM
    have HB := Lib.hid (below_alloc w (.cells #[.int .i64 k, .int .i64 t1, .int .i64 t2, .int .i64 t3, .slice A L c, .slice B M d, .int .i64 a0, .int .i64 a1, .int .i64 a2, .int .i64 a3, .int .i64 a4, .int .i64 a5, .bool yes] 27))
    go_enter Try.func10, Try.ntmps10
    go_wp2_with fail
    refine (HR.out _ HB.out).mono ?_
    rintro e w1 ⟨rfl, hb1⟩
    have HB1 := Lib.hid (HB.out.trans (hb1.mono HB.out.size))
    clear hb1
    go_wp2_with fail
    go_returns
    refine ⟨?_, HB1.out⟩
    simp only [HE.out.1, HE.out.2]
    rfl
end Go.Proofs.Ytfnkjdkckpdfhaa.Msg
