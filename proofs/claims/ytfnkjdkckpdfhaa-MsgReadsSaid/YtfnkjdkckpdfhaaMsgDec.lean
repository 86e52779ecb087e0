/-
  Layer 10: the record of bytes: the code. Conditions: none.
-/
import Derived.Test.YtfnkjdkckpdfhaaMsgRead2
namespace Go.Proofs.Ytfnkjdkckpdfhaa.Msg
set_option maxRecDepth 100000
open Go.RowKit Go.Proofs.Ytfnkjdkckpdfhaa.Mem Go.Proofs.Ytfnkjdkckpdfhaa.Item Go.Proofs.Ytfnkjdkckpdfhaa.Wire

/-- What is read of bytes, right or not. -/
def dec0 (s : ByteArray) : Rc × ByteArray × Bool := foldF (fl (Wire.num s 1 : Nat)) (rcK (Wire.num s 1 : Nat), rest s 1, brk s false 1)
/-- The record of bytes. -/
def dec (s : ByteArray) : Option Rc := if endV (dec0 s).2.1 (dec0 s).2.2 = 0 ∧ right (dec0 s).1 = true then some (dec0 s).1 else none
def decR (s : ByteArray) : Rc := (dec s).getD rc0
def decE (s : ByteArray) : Int := if (dec s).isSome then 0 else 2
theorem readItems_le (s : ByteArray) (b : Bool) : (readItems s b).length ≤ 16 := by
  unfold readItems
  split
  · decide
  · rw [readL_length]; exact few_le s
theorem readNodes_le (s : ByteArray) (b : Bool) : (readNodes s b).length ≤ 16 := by
  unfold readNodes
  split
  · decide
  · rw [readN_length]; exact few_le s
theorem step_few (f : Nat) (t : Rc × ByteArray × Bool) (h : t.1.few) : (stepF f t).1.few := by
  unfold stepF
  split
  · exact ⟨h.items, h.nodes⟩
  split
  · exact ⟨readItems_le _ _, h.nodes⟩
  split
  · exact ⟨h.items, readNodes_le _ _⟩
  split
  · exact ⟨h.items, h.nodes⟩
  · obtain ⟨_, _, s2, s3, _⟩ := setN_rest t.1 f (IntKind.i64.wrap (Wire.num t.2.1 8 : Nat))
    exact ⟨by show (setN t.1 f _).items.length ≤ 16; rw [s2]; exact h.items, by show (setN t.1 f _).nodes.length ≤ 16; rw [s3]; exact h.nodes⟩
theorem fold_few (l : List Int) : ∀ (t : Rc × ByteArray × Bool), t.1.few → (foldF l t).1.few := by
  induction l with
  | nil => intro t h; exact h
  | cons a l ih => intro t h; exact ih _ (step_few _ _ h)
theorem dec0_few (s : ByteArray) : (dec0 s).1.few := fold_few _ _ ⟨Nat.zero_le _, Nat.zero_le _⟩

set_option maxHeartbeats 2000000 in
theorem decode_off (s : ByteArray) (w : World) (hs : s.size ≤ 140737488355328) :
    Calls Try.prog 12 #[.string s] w fun e w' => (∃ y, e = .returned (.tuple #[(decR s).val y, .int .i64 (decE s)]) ∧ Has w' (decR s) y ∧ OffL w.heap.size (decR s) y) ∧ Below w.heap.size w w' := by
  have HFEW := Lib.hid (dec0_few s)
  have HD0 : Hid (foldF (fl (Wire.num s 1 : Nat)) (rcK (Wire.num s 1 : Nat), rest s 1, brk s false 1) = dec0 s) := Lib.hid rfl
  have HDR : Hid (decR s = if endV (dec0 s).2.1 (dec0 s).2.2 = 0 ∧ right (dec0 s).1 = true then (dec0 s).1 else rc0) := Lib.hid (by
    unfold decR dec
    split <;> rfl)
  have HDE : Hid (decE s = if endV (dec0 s).2.1 (dec0 s).2.2 = 0 ∧ right (dec0 s).1 = true then 0 else 2) := Lib.hid (by
    unfold decE dec
    split <;> rfl)
  obtain ⟨R, hR⟩ : ∃ R, decR s = R := ⟨_, rfl⟩
  obtain ⟨E, hE⟩ : ∃ E, decE s = E := ⟨_, rfl⟩
  obtain ⟨T, hT⟩ : ∃ T, dec0 s = T := ⟨_, rfl⟩
  rw [hR, hT] at HDR
  rw [hE, hT] at HDE
  rw [hT] at HD0 HFEW
  rw [hR, hE]
  clear hR hE hT
  have HB1 := Lib.hid (below_alloc w (.cells #[.int .i64 0, .int .i64 0, .int .i64 0, .int .i64 0, .slice none 0 0, .slice none 0 0, .int .i64 0, .int .i64 0, .int .i64 0, .int .i64 0, .int .i64 0, .int .i64 0, .bool false] 27))
  have HRS := Lib.hid (cells_new w 27 zeroC #[.int .i64 0, .int .i64 0, .int .i64 0, .int .i64 0, .slice none 0 0, .slice none 0 0, .int .i64 0, .int .i64 0, .int .i64 0, .int .i64 0, .int .i64 0, .int .i64 0, .bool false] rfl)
  have hlt := num_lt s 1 1 (Nat.le_refl _)
  rw [show (256 : Nat) ^ 1 = 256 from rfl] at hlt
  go_enter Try.func12, Try.ntmps12
  go_wp2_with fail
  refine (inew_any _ s hs).mono ?_
  rintro e w2 ⟨p, g, rfl, hi, hp, hg, hb2⟩
  rw [World.size_alloc] at hp hg
  have HI := Lib.hid hi
  have HB2 := Lib.hid (HB1.out.trans (hb2.mono HB1.out.size))
  have HRS2 := Lib.hid (HRS.out.later hb2)
  have HPG : Hid (w.heap.size < p ∧ w.heap.size < g) := Lib.hid ⟨by omega, by omega⟩
  have hcp := hi.cell
  clear hi hp hg hb2
  go_wp2_with fail
  refine (rbyte_any w2 (some g) s false HI.out.rd).mono ?_
  rintro e w3 ⟨rfl, hr3, hf3⟩
  have hi3 := HI.out.move hr3 hf3
  have HI3 := Lib.hid hi3
  have HB3 := Lib.hid (HB2.out.trans (hf3.below (by exact HB2.out.size) (by
    intro k hk
    have := Option.some.inj hk
    have := HPG.out.2
    omega)))
  have HRS3 := Lib.hid (cells_only HRS2.out hf3 (by
    intro e
    have := Option.some.inj e
    have := HPG.out.2
    omega))
  obtain ⟨n, hn⟩ : ∃ n, Wire.num s 1 = n := ⟨_, rfl⟩
  rw [hn] at HD0 hlt ⊢
  clear hi3 hr3 hf3 hcp hn
  go_wp2_with fail
  refine (fields_any (n : Int) w3).mono ?_
  rintro e w4 ⟨FA, fc, rfl, hnu, hfr, hb4⟩
  have HNU := Lib.hid hnu
  have HFR := Lib.hid hfr
  have HB4 := Lib.hid (HB3.out.trans (hb4.mono HB3.out.size))
  have HRS4 := Lib.hid (HRS3.out.later hb4)
  have HI4 := Lib.hid (HI3.out.later hb4)
  have HG4 : Hid (g < w3.heap.size) := Lib.hid HI3.out.lt.2
  have HRD := Lib.hid (read_any (n : Int) FA (fl n) fc w4 p g (rest s 1) (brk s false 1) HI4.out HNU.out (fun _ b off e => by have := HFR.out b off e; have := HG4.out; omega) (fl_at n) (fl_len n))
  rw [HD0.out] at HRD
  clear hnu hfr hb4
  go_wp2_with fail
  refine HRD.out.mono ?_
  rintro e w5 ⟨y, rfl, hh5, hi5, hf5, hol⟩
  obtain ⟨x, s5, b5⟩ := T
  simp only at hh5 hi5 hol HDR HDE HFEW ⊢
  have HI5 := Lib.hid hi5
  have HB5 := Lib.hid (HB4.out.trans (hf5.below (by exact HB4.out.size) (by
    intro k hk
    have := Option.some.inj hk
    have := HPG.out.2
    omega)))
  have HRS5 := Lib.hid (cells_only HRS4.out hf5 (by
    intro e
    have := Option.some.inj e
    have := HPG.out.2
    omega))
  have HH5 := Lib.hid hh5
  have HOL := Lib.hid hol
  have HRR := Lib.hid (fun w' (hb : Below w5.heap.size w5 w') => right_any x y w' (hh5.later hb) (Nat.le_trans HFEW.out.items (by decide)) (Nat.le_trans HFEW.out.nodes (by decide)))
  clear hi5 hf5 hh5 hol HRD HD0
  obtain ⟨xk, ⟨x1, x2, x3⟩, its, nds, a0, a1, a2, a3, a4, a5, yes⟩ := x
  obtain ⟨A, c, B, d⟩ := y
  obtain ⟨L, hLL⟩ : ∃ L, its.length = L := ⟨_, rfl⟩
  obtain ⟨M, hMM⟩ : ∃ M, nds.length = M := ⟨_, rfl⟩
  have HLM : Hid (its.length = L ∧ nds.length = M) := Lib.hid ⟨hLL, hMM⟩
  unfold Rc.val at HRR ⊢
  simp only [hLL, hMM] at HRR ⊢
  clear hLL hMM
  have hb6 := below_alloc w5 (.cells #[.int .i64 xk, .int .i64 x1, .int .i64 x2, .int .i64 x3, .slice A L c, .slice B M d, .int .i64 a0, .int .i64 a1, .int .i64 a2, .int .i64 a3, .int .i64 a4, .int .i64 a5, .bool yes] 27)
  have HB6 := Lib.hid hb6
  have hcn := cells_new w5 27 _ #[.int .i64 xk, .int .i64 x1, .int .i64 x2, .int .i64 x3, .slice A L c, .slice B M d, .int .i64 a0, .int .i64 a1, .int .i64 a2, .int .i64 a3, .int .i64 a4, .int .i64 a5, .bool yes] rfl
  have HCN := Lib.hid hcn
  have HI6 := Lib.hid (HI5.out.later hb6)
  have hcp := HI6.out.cell
  have HEN := Lib.hid (end_any (w5.alloc (.cells #[.int .i64 xk, .int .i64 x1, .int .i64 x2, .int .i64 x3, .slice A L c, .slice B M d, .int .i64 a0, .int .i64 a1, .int .i64 a2, .int .i64 a3, .int .i64 a4, .int .i64 a5, .bool yes] 27)) (some g) s5 b5 HI6.out.rd)
  obtain ⟨ev, hev⟩ : ∃ ev, endV s5 b5 = ev := ⟨_, rfl⟩
  rw [hev] at HEN HDR HDE
  clear hb6 hcn hev
  go_wp2_with fail
  refine HEN.out.mono ?_
  rintro e w6 ⟨rfl, rfl⟩
  have HFIN : Hid (∀ (w7 : World), Below (w5.alloc (.cells #[.int .i64 xk, .int .i64 x1, .int .i64 x2, .int .i64 x3, .slice A L c, .slice B M d, .int .i64 a0, .int .i64 a1, .int .i64 a2, .int .i64 a3, .int .i64 a4, .int .i64 a5, .bool yes] 27)).heap.size (w5.alloc (.cells #[.int .i64 xk, .int .i64 x1, .int .i64 x2, .int .i64 x3, .slice A L c, .slice B M d, .int .i64 a0, .int .i64 a1, .int .i64 a2, .int .i64 a3, .int .i64 a4, .int .i64 a5, .bool yes] 27)) w7 → Cells w7 w.heap.size 27 zeroC ∧ Cells w7 w5.heap.size 27 [.int .i64 xk, .int .i64 x1, .int .i64 x2, .int .i64 x3, .slice A L c, .slice B M d, .int .i64 a0, .int .i64 a1, .int .i64 a2, .int .i64 a3, .int .i64 a4, .int .i64 a5, .bool yes] ∧ ∀ wz, Only (fun k => k = w.heap.size) w7 wz → Below w.heap.size w wz ∧ Has wz ⟨xk, ⟨x1, x2, x3⟩, its, nds, a0, a1, a2, a3, a4, a5, yes⟩ ⟨A, c, B, d⟩) := Lib.hid (by
    intro w7 hb7
    have h57 : Below w5.heap.size w5 w7 := HB6.out.trans (hb7.mono HB6.out.size)
    have hS : w.heap.size < w5.heap.size := HRS5.out.lt
    refine ⟨HRS5.out.later h57, HCN.out.later hb7, fun wz ho => ⟨?_, ?_⟩⟩
    · exact (HB5.out.trans (h57.mono (by omega))).trans (ho.below (by have := h57.size; omega) (by intro k hk; rw [hk]; exact Nat.le_refl _))
    · have hh := HH5.out.later h57
      have hB4 := HB4.out.size
      have hW4 : w.heap.size < w4.heap.size := HRS4.out.lt
      exact ⟨Items.only hh.items ho fun h0 b off e hs => by have := HOL.out.1 h0 b off e; have : b = w.heap.size := hs; omega, Nums.only hh.nodes ho fun h0 b off e hs => by have := HOL.out.2 h0 b off e; have : b = w.heap.size := hs; omega⟩)
  have HOW : Hid (OffL w.heap.size ⟨xk, ⟨x1, x2, x3⟩, its, nds, a0, a1, a2, a3, a4, a5, yes⟩ ⟨A, c, B, d⟩) := Lib.hid ⟨fun h0 b off e => by have := HOL.out.1 h0 b off e; have := HB4.out.size; omega, fun h0 b off e => by have := HOL.out.2 h0 b off e; have := HB4.out.size; omega⟩
  by_cases he : ev = 0
  · subst he
    have hcr := HCN.out
    have q0 := hcr.cell (j := 0) rfl
    have q1 := hcr.cell (j := 1) rfl
    have q2 := hcr.cell (j := 2) rfl
    have q3 := hcr.cell (j := 3) rfl
    have q4 := hcr.cell (j := 4) rfl
    have q5 := hcr.cell (j := 5) rfl
    have q6 := hcr.cell (j := 6) rfl
    have q7 := hcr.cell (j := 7) rfl
    have q8 := hcr.cell (j := 8) rfl
    have q9 := hcr.cell (j := 9) rfl
    have q10 := hcr.cell (j := 10) rfl
    have q11 := hcr.cell (j := 11) rfl
    have q12 := hcr.cell (j := 12) rfl
    clear hcr
    go_wp2_with fail
    refine (HRR.out _ HB6.out).mono ?_
    rintro e w7 ⟨rfl, hb7⟩
    have HB7 := Lib.hid hb7
    clear hb7 q0 q1 q2 q3 q4 q5 q6 q7 q8 q9 q10 q11 q12 hcp
    obtain ⟨rt, hrt⟩ : ∃ rt, right ⟨xk, ⟨x1, x2, x3⟩, its, nds, a0, a1, a2, a3, a4, a5, yes⟩ = rt := ⟨_, rfl⟩
    rw [hrt] at HDR HDE ⊢
    clear hrt
    cases rt
    · have HR2 : Hid (R = rc0) := Lib.hid (by rw [HDR.out, if_neg (by rintro ⟨_, h⟩; cases h)])
      have HE2 : Hid (E = 2) := Lib.hid (by rw [HDE.out, if_neg (by rintro ⟨_, h⟩; cases h)])
      obtain ⟨hz, hv, hfz⟩ := HFIN.out _ HB7.out
      have z0 := hz.cell (j := 0) rfl
      have z1 := hz.cell (j := 1) rfl
      have z2 := hz.cell (j := 2) rfl
      have z3 := hz.cell (j := 3) rfl
      have z4 := hz.cell (j := 4) rfl
      have z5 := hz.cell (j := 5) rfl
      have z6 := hz.cell (j := 6) rfl
      have z7 := hz.cell (j := 7) rfl
      have z8 := hz.cell (j := 8) rfl
      have z9 := hz.cell (j := 9) rfl
      have z10 := hz.cell (j := 10) rfl
      have z11 := hz.cell (j := 11) rfl
      have z12 := hz.cell (j := 12) rfl
      have fz0 := hz.frozen (j := 0) (by simp [zeroC])
      have fz1 := hz.frozen (j := 1) (by simp [zeroC])
      have fz2 := hz.frozen (j := 2) (by simp [zeroC])
      have fz3 := hz.frozen (j := 3) (by simp [zeroC])
      have fz4 := hz.frozen (j := 4) (by simp [zeroC])
      have fz5 := hz.frozen (j := 5) (by simp [zeroC])
      have fz6 := hz.frozen (j := 6) (by simp [zeroC])
      have fz7 := hz.frozen (j := 7) (by simp [zeroC])
      have fz8 := hz.frozen (j := 8) (by simp [zeroC])
      have fz9 := hz.frozen (j := 9) (by simp [zeroC])
      have fz10 := hz.frozen (j := 10) (by simp [zeroC])
      have fz11 := hz.frozen (j := 11) (by simp [zeroC])
      have fz12 := hz.frozen (j := 12) (by simp [zeroC])
      have q0 := hv.cell (j := 0) rfl
      have q1 := hv.cell (j := 1) rfl
      have q2 := hv.cell (j := 2) rfl
      have q3 := hv.cell (j := 3) rfl
      have q4 := hv.cell (j := 4) rfl
      have q5 := hv.cell (j := 5) rfl
      have q6 := hv.cell (j := 6) rfl
      have q7 := hv.cell (j := 7) rfl
      have q8 := hv.cell (j := 8) rfl
      have q9 := hv.cell (j := 9) rfl
      have q10 := hv.cell (j := 10) rfl
      have q11 := hv.cell (j := 11) rfl
      have q12 := hv.cell (j := 12) rfl
      have hzz := (((((((((((((hz.set_ 0 (.int .i64 0)).set_ 1 (.int .i64 0)).set_ 2 (.int .i64 0)).set_ 3 (.int .i64 0)).set_ 4 (.slice none 0 0)).set_ 5 (.slice none 0 0)).set_ 6 (.int .i64 0)).set_ 7 (.int .i64 0)).set_ 8 (.int .i64 0)).set_ 9 (.int .i64 0)).set_ 10 (.int .i64 0)).set_ 11 (.int .i64 0)).set_ 12 (.bool false))
      have HZZ := Lib.hid hzz
      have HO := Lib.hid (hfz _ (only_set (only_set (only_set (only_set (only_set (only_set (only_set (only_set (only_set (only_set (only_set (only_set (only_set (Only.refl (fun k => k = w.heap.size) _) ⟨w.heap.size, 0, none⟩ (.int .i64 0) rfl) ⟨w.heap.size, 1, none⟩ (.int .i64 0) rfl) ⟨w.heap.size, 2, none⟩ (.int .i64 0) rfl) ⟨w.heap.size, 3, none⟩ (.int .i64 0) rfl) ⟨w.heap.size, 4, none⟩ (.slice none 0 0) rfl) ⟨w.heap.size, 5, none⟩ (.slice none 0 0) rfl) ⟨w.heap.size, 6, none⟩ (.int .i64 0) rfl) ⟨w.heap.size, 7, none⟩ (.int .i64 0) rfl) ⟨w.heap.size, 8, none⟩ (.int .i64 0) rfl) ⟨w.heap.size, 9, none⟩ (.int .i64 0) rfl) ⟨w.heap.size, 10, none⟩ (.int .i64 0) rfl) ⟨w.heap.size, 11, none⟩ (.int .i64 0) rfl) ⟨w.heap.size, 12, none⟩ (.bool false) rfl))
      clear hz hv hzz hfz
      go_wp2_with fail
      have hzz := HZZ.out
      have r0 := hzz.cell (j := 0) rfl
      have r1 := hzz.cell (j := 1) rfl
      have r2 := hzz.cell (j := 2) rfl
      have r3 := hzz.cell (j := 3) rfl
      have r4 := hzz.cell (j := 4) rfl
      have r5 := hzz.cell (j := 5) rfl
      have r6 := hzz.cell (j := 6) rfl
      have r7 := hzz.cell (j := 7) rfl
      have r8 := hzz.cell (j := 8) rfl
      have r9 := hzz.cell (j := 9) rfl
      have r10 := hzz.cell (j := 10) rfl
      have r11 := hzz.cell (j := 11) rfl
      have r12 := hzz.cell (j := 12) rfl
      refine bodyPost_ret (v := .tuple #[.agg #[.int .i64 0, .int .i64 0, .int .i64 0, .int .i64 0, .slice none 0 0, .slice none 0 0, .int .i64 0, .int .i64 0, .int .i64 0, .int .i64 0, .int .i64 0, .int .i64 0, .bool false], .int .i64 2]) (by simp [results, go_sem, r0, r1, r2, r3, r4, r5, r6, r7, r8, r9, r10, r11, r12]) rfl ⟨⟨lay0, by rw [HR2.out, HE2.out]; rfl, by rw [HR2.out]; exact has0 _, by rw [HR2.out]; exact ⟨fun h => absurd h (Nat.lt_irrefl 0), fun h => absurd h (Nat.lt_irrefl 0)⟩⟩, HO.out.1⟩
    · have HR2 : Hid (R = ⟨xk, ⟨x1, x2, x3⟩, its, nds, a0, a1, a2, a3, a4, a5, yes⟩) := Lib.hid (by rw [HDR.out, if_pos (by simp)])
      have HE2 : Hid (E = 0) := Lib.hid (by rw [HDE.out, if_pos (by simp)])
      obtain ⟨hz, hv, hfz⟩ := HFIN.out _ HB7.out
      have z0 := hz.cell (j := 0) rfl
      have z1 := hz.cell (j := 1) rfl
      have z2 := hz.cell (j := 2) rfl
      have z3 := hz.cell (j := 3) rfl
      have z4 := hz.cell (j := 4) rfl
      have z5 := hz.cell (j := 5) rfl
      have z6 := hz.cell (j := 6) rfl
      have z7 := hz.cell (j := 7) rfl
      have z8 := hz.cell (j := 8) rfl
      have z9 := hz.cell (j := 9) rfl
      have z10 := hz.cell (j := 10) rfl
      have z11 := hz.cell (j := 11) rfl
      have z12 := hz.cell (j := 12) rfl
      have fz0 := hz.frozen (j := 0) (by simp [zeroC])
      have fz1 := hz.frozen (j := 1) (by simp [zeroC])
      have fz2 := hz.frozen (j := 2) (by simp [zeroC])
      have fz3 := hz.frozen (j := 3) (by simp [zeroC])
      have fz4 := hz.frozen (j := 4) (by simp [zeroC])
      have fz5 := hz.frozen (j := 5) (by simp [zeroC])
      have fz6 := hz.frozen (j := 6) (by simp [zeroC])
      have fz7 := hz.frozen (j := 7) (by simp [zeroC])
      have fz8 := hz.frozen (j := 8) (by simp [zeroC])
      have fz9 := hz.frozen (j := 9) (by simp [zeroC])
      have fz10 := hz.frozen (j := 10) (by simp [zeroC])
      have fz11 := hz.frozen (j := 11) (by simp [zeroC])
      have fz12 := hz.frozen (j := 12) (by simp [zeroC])
      have q0 := hv.cell (j := 0) rfl
      have q1 := hv.cell (j := 1) rfl
      have q2 := hv.cell (j := 2) rfl
      have q3 := hv.cell (j := 3) rfl
      have q4 := hv.cell (j := 4) rfl
      have q5 := hv.cell (j := 5) rfl
      have q6 := hv.cell (j := 6) rfl
      have q7 := hv.cell (j := 7) rfl
      have q8 := hv.cell (j := 8) rfl
      have q9 := hv.cell (j := 9) rfl
      have q10 := hv.cell (j := 10) rfl
      have q11 := hv.cell (j := 11) rfl
      have q12 := hv.cell (j := 12) rfl
      have hzz := (((((((((((((hz.set_ 0 (.int .i64 xk)).set_ 1 (.int .i64 x1)).set_ 2 (.int .i64 x2)).set_ 3 (.int .i64 x3)).set_ 4 (.slice A L c)).set_ 5 (.slice B M d)).set_ 6 (.int .i64 a0)).set_ 7 (.int .i64 a1)).set_ 8 (.int .i64 a2)).set_ 9 (.int .i64 a3)).set_ 10 (.int .i64 a4)).set_ 11 (.int .i64 a5)).set_ 12 (.bool yes))
      have HZZ := Lib.hid hzz
      have HO := Lib.hid (hfz _ (only_set (only_set (only_set (only_set (only_set (only_set (only_set (only_set (only_set (only_set (only_set (only_set (only_set (Only.refl (fun k => k = w.heap.size) _) ⟨w.heap.size, 0, none⟩ (.int .i64 xk) rfl) ⟨w.heap.size, 1, none⟩ (.int .i64 x1) rfl) ⟨w.heap.size, 2, none⟩ (.int .i64 x2) rfl) ⟨w.heap.size, 3, none⟩ (.int .i64 x3) rfl) ⟨w.heap.size, 4, none⟩ (.slice A L c) rfl) ⟨w.heap.size, 5, none⟩ (.slice B M d) rfl) ⟨w.heap.size, 6, none⟩ (.int .i64 a0) rfl) ⟨w.heap.size, 7, none⟩ (.int .i64 a1) rfl) ⟨w.heap.size, 8, none⟩ (.int .i64 a2) rfl) ⟨w.heap.size, 9, none⟩ (.int .i64 a3) rfl) ⟨w.heap.size, 10, none⟩ (.int .i64 a4) rfl) ⟨w.heap.size, 11, none⟩ (.int .i64 a5) rfl) ⟨w.heap.size, 12, none⟩ (.bool yes) rfl))
      clear hz hv hzz hfz
      go_wp2_with fail
      have hzz := HZZ.out
      have r0 := hzz.cell (j := 0) rfl
      have r1 := hzz.cell (j := 1) rfl
      have r2 := hzz.cell (j := 2) rfl
      have r3 := hzz.cell (j := 3) rfl
      have r4 := hzz.cell (j := 4) rfl
      have r5 := hzz.cell (j := 5) rfl
      have r6 := hzz.cell (j := 6) rfl
      have r7 := hzz.cell (j := 7) rfl
      have r8 := hzz.cell (j := 8) rfl
      have r9 := hzz.cell (j := 9) rfl
      have r10 := hzz.cell (j := 10) rfl
      have r11 := hzz.cell (j := 11) rfl
      have r12 := hzz.cell (j := 12) rfl
      refine bodyPost_ret (v := .tuple #[.agg #[.int .i64 xk, .int .i64 x1, .int .i64 x2, .int .i64 x3, .slice A L c, .slice B M d, .int .i64 a0, .int .i64 a1, .int .i64 a2, .int .i64 a3, .int .i64 a4, .int .i64 a5, .bool yes], .int .i64 0]) (by simp [results, go_sem, r0, r1, r2, r3, r4, r5, r6, r7, r8, r9, r10, r11, r12]) rfl ⟨⟨⟨A, c, B, d⟩, by rw [HR2.out, HE2.out]; unfold Rc.val; simp only [HLM.out.1, HLM.out.2], by rw [HR2.out]; exact HO.out.2, by rw [HR2.out]; exact HOW.out⟩, HO.out.1⟩
  · have HR2 : Hid (R = rc0) := Lib.hid (by rw [HDR.out, if_neg (fun h => he h.1)])
    have HE2 : Hid (E = 2) := Lib.hid (by rw [HDE.out, if_neg (fun h => he h.1)])
    have HB7 : Hid (Below (w5.alloc (.cells #[.int .i64 xk, .int .i64 x1, .int .i64 x2, .int .i64 x3, .slice A L c, .slice B M d, .int .i64 a0, .int .i64 a1, .int .i64 a2, .int .i64 a3, .int .i64 a4, .int .i64 a5, .bool yes] 27)).heap.size (w5.alloc (.cells #[.int .i64 xk, .int .i64 x1, .int .i64 x2, .int .i64 x3, .slice A L c, .slice B M d, .int .i64 a0, .int .i64 a1, .int .i64 a2, .int .i64 a3, .int .i64 a4, .int .i64 a5, .bool yes] 27)) (w5.alloc (.cells #[.int .i64 xk, .int .i64 x1, .int .i64 x2, .int .i64 x3, .slice A L c, .slice B M d, .int .i64 a0, .int .i64 a1, .int .i64 a2, .int .i64 a3, .int .i64 a4, .int .i64 a5, .bool yes] 27))) := Lib.hid (Below.refl _ _)
    obtain ⟨hz, hv, hfz⟩ := HFIN.out _ HB7.out
    have z0 := hz.cell (j := 0) rfl
    have z1 := hz.cell (j := 1) rfl
    have z2 := hz.cell (j := 2) rfl
    have z3 := hz.cell (j := 3) rfl
    have z4 := hz.cell (j := 4) rfl
    have z5 := hz.cell (j := 5) rfl
    have z6 := hz.cell (j := 6) rfl
    have z7 := hz.cell (j := 7) rfl
    have z8 := hz.cell (j := 8) rfl
    have z9 := hz.cell (j := 9) rfl
    have z10 := hz.cell (j := 10) rfl
    have z11 := hz.cell (j := 11) rfl
    have z12 := hz.cell (j := 12) rfl
    have fz0 := hz.frozen (j := 0) (by simp [zeroC])
    have fz1 := hz.frozen (j := 1) (by simp [zeroC])
    have fz2 := hz.frozen (j := 2) (by simp [zeroC])
    have fz3 := hz.frozen (j := 3) (by simp [zeroC])
    have fz4 := hz.frozen (j := 4) (by simp [zeroC])
    have fz5 := hz.frozen (j := 5) (by simp [zeroC])
    have fz6 := hz.frozen (j := 6) (by simp [zeroC])
    have fz7 := hz.frozen (j := 7) (by simp [zeroC])
    have fz8 := hz.frozen (j := 8) (by simp [zeroC])
    have fz9 := hz.frozen (j := 9) (by simp [zeroC])
    have fz10 := hz.frozen (j := 10) (by simp [zeroC])
    have fz11 := hz.frozen (j := 11) (by simp [zeroC])
    have fz12 := hz.frozen (j := 12) (by simp [zeroC])
    have q0 := hv.cell (j := 0) rfl
    have q1 := hv.cell (j := 1) rfl
    have q2 := hv.cell (j := 2) rfl
    have q3 := hv.cell (j := 3) rfl
    have q4 := hv.cell (j := 4) rfl
    have q5 := hv.cell (j := 5) rfl
    have q6 := hv.cell (j := 6) rfl
    have q7 := hv.cell (j := 7) rfl
    have q8 := hv.cell (j := 8) rfl
    have q9 := hv.cell (j := 9) rfl
    have q10 := hv.cell (j := 10) rfl
    have q11 := hv.cell (j := 11) rfl
    have q12 := hv.cell (j := 12) rfl
    have hzz := (((((((((((((hz.set_ 0 (.int .i64 0)).set_ 1 (.int .i64 0)).set_ 2 (.int .i64 0)).set_ 3 (.int .i64 0)).set_ 4 (.slice none 0 0)).set_ 5 (.slice none 0 0)).set_ 6 (.int .i64 0)).set_ 7 (.int .i64 0)).set_ 8 (.int .i64 0)).set_ 9 (.int .i64 0)).set_ 10 (.int .i64 0)).set_ 11 (.int .i64 0)).set_ 12 (.bool false))
    have HZZ := Lib.hid hzz
    have HO := Lib.hid (hfz _ (only_set (only_set (only_set (only_set (only_set (only_set (only_set (only_set (only_set (only_set (only_set (only_set (only_set (Only.refl (fun k => k = w.heap.size) _) ⟨w.heap.size, 0, none⟩ (.int .i64 0) rfl) ⟨w.heap.size, 1, none⟩ (.int .i64 0) rfl) ⟨w.heap.size, 2, none⟩ (.int .i64 0) rfl) ⟨w.heap.size, 3, none⟩ (.int .i64 0) rfl) ⟨w.heap.size, 4, none⟩ (.slice none 0 0) rfl) ⟨w.heap.size, 5, none⟩ (.slice none 0 0) rfl) ⟨w.heap.size, 6, none⟩ (.int .i64 0) rfl) ⟨w.heap.size, 7, none⟩ (.int .i64 0) rfl) ⟨w.heap.size, 8, none⟩ (.int .i64 0) rfl) ⟨w.heap.size, 9, none⟩ (.int .i64 0) rfl) ⟨w.heap.size, 10, none⟩ (.int .i64 0) rfl) ⟨w.heap.size, 11, none⟩ (.int .i64 0) rfl) ⟨w.heap.size, 12, none⟩ (.bool false) rfl))
    clear hz hv hzz hfz
    go_wp2_with fail
    have hzz := HZZ.out
    have r0 := hzz.cell (j := 0) rfl
    have r1 := hzz.cell (j := 1) rfl
    have r2 := hzz.cell (j := 2) rfl
    have r3 := hzz.cell (j := 3) rfl
    have r4 := hzz.cell (j := 4) rfl
    have r5 := hzz.cell (j := 5) rfl
    have r6 := hzz.cell (j := 6) rfl
    have r7 := hzz.cell (j := 7) rfl
    have r8 := hzz.cell (j := 8) rfl
    have r9 := hzz.cell (j := 9) rfl
    have r10 := hzz.cell (j := 10) rfl
    have r11 := hzz.cell (j := 11) rfl
    have r12 := hzz.cell (j := 12) rfl
    refine bodyPost_ret (v := .tuple #[.agg #[.int .i64 0, .int .i64 0, .int .i64 0, .int .i64 0, .slice none 0 0, .slice none 0 0, .int .i64 0, .int .i64 0, .int .i64 0, .int .i64 0, .int .i64 0, .int .i64 0, .bool false], .int .i64 2]) (by simp [results, go_sem, r0, r1, r2, r3, r4, r5, r6, r7, r8, r9, r10, r11, r12]) rfl ⟨⟨lay0, by rw [HR2.out, HE2.out]; rfl, by rw [HR2.out]; exact has0 _, by rw [HR2.out]; exact ⟨fun h => absurd h (Nat.lt_irrefl 0), fun h => absurd h (Nat.lt_irrefl 0)⟩⟩, HO.out.1⟩
theorem decode_any (s : ByteArray) (w : World) (hs : s.size ≤ 140737488355328) :
    Calls Try.prog 12 #[.string s] w fun e w' => (∃ y, e = .returned (.tuple #[(decR s).val y, .int .i64 (decE s)]) ∧ Has w' (decR s) y) ∧ Below w.heap.size w w' :=
  (decode_off s w hs).mono fun _ _ ⟨⟨y, h1, h2, _⟩, h3⟩ => ⟨⟨y, h1, h2⟩, h3⟩
end Go.Proofs.Ytfnkjdkckpdfhaa.Msg
