/-
  Layer 6: nodes read of bytes. Conditions: none.
-/
import Derived.Test.YtfnkjdkckpdfhaaItemRead
namespace Go.Proofs.Ytfnkjdkckpdfhaa.Item
open Go.RowKit Go.Proofs.Ytfnkjdkckpdfhaa.Mem Go.Proofs.Ytfnkjdkckpdfhaa.Wire

def restN : Nat → ByteArray → ByteArray
  | 0, s => s
  | n + 1, s => rest (restN n s) 8
def brkN : Nat → ByteArray → Bool → Bool
  | 0, _, b => b
  | n + 1, s, b => brk (restN n s) (brkN n s b) 8
def readN : Nat → ByteArray → List Int
  | 0, _ => []
  | n + 1, s => readN n s ++ [IntKind.i64.wrap (num (restN n s) 8 : Nat)]
theorem readN_length (n : Nat) (s : ByteArray) : (readN n s).length = n := by
  induction n with
  | zero => rfl
  | succ n ih => rw [readN, List.length_append, ih]; rfl
def readNodes (s : ByteArray) (b : Bool) : List Int := if brkN (fewN s) (fewR s) (fewB s b) then [] else readN (fewN s) (fewR s)
def restNodes (s : ByteArray) : ByteArray := restN (fewN s) (fewR s)
def brkNodes (s : ByteArray) (b : Bool) : Bool := brkN (fewN s) (fewR s) (fewB s b)
theorem infoInt : (Try.prog.info? 3).map (fun i => (i.zero, i.size, i.bytes)) = some (some (.int .i64 0), 1, 8) := by kernel_rfl
set_option maxHeartbeats 1000000 in
theorem rNodes_any (w : World) (p g : Nat) (s0 : ByteArray) (c0 : Bool) (h : IRd w p g s0 c0) :
    Calls Try.prog 56 #[.pointer (some ⟨p, 0, none⟩)] w fun e w' => ∃ v, e = .returned v ∧ w'.ownsRow w.heap.size 3 1 v (readNodes s0 c0).length ((readNodes s0 c0).map (Value.int .i64)) ∧ IRd w' p g (restNodes s0) (brkNodes s0 c0) ∧ Wire.Foot (some g) w w' := by
  have HF := Lib.hid (few_any w p g s0 c0 h)
  have HPG : Hid (p < w.heap.size ∧ g < w.heap.size) := Lib.hid h.lt
  have hfl := few_le s0
  clear h
  go_enter Try.func56, Try.ntmps56
  go_wp2_with fail
  refine HF.out.mono ?_
  rintro e w1 ⟨rfl, hi1, hf1⟩
  have HI1 := Lib.hid hi1
  have HF1 := Lib.hid hf1
  obtain ⟨N, hN⟩ : ∃ N, N = fewN s0 := ⟨_, rfl⟩
  obtain ⟨s1, hs1⟩ : ∃ s1, s1 = fewR s0 := ⟨_, rfl⟩
  obtain ⟨c1, hc1⟩ : ∃ c1, c1 = fewB s0 c0 := ⟨_, rfl⟩
  have HRI : Hid (readNodes s0 c0 = (if brkN N s1 c1 then [] else readN N s1) ∧ restNodes s0 = restN N s1 ∧ brkNodes s0 c0 = brkN N s1 c1) := Lib.hid (by subst hN; subst hs1; subst hc1; exact ⟨rfl, rfl, rfl⟩)
  rw [← hN] at hfl ⊢
  rw [← hs1, ← hc1] at HI1
  clear hi1 hf1 HF hN hs1 hc1
  go_wp2_with fail
  go_loopw [3, 8] (fun v i wr => ∃ k : Nat, k ≤ N ∧ i = .int .i64 (k : Int) ∧ wr.ownsRow w.heap.size 3 1 v k ((readN k s1).map (Value.int .i64)) ∧ IRd wr p g (restN k s1) (brkN k s1 c1) ∧ Wire.Foot (some g) w wr) (fun _ i _ => N - (intOf i).toNat)
  case atStart => exact ⟨0, Nat.zero_le _, rfl, World.ownsRow_nil _ _ _ _, HI1.out, HF1.out⟩
  case round =>
    obtain ⟨k, hk, rfl, hrow, hir, hfr⟩ := hrel
    by_cases hlt : k < N
    · have HFR := Lib.hid hfr
      have HIR := Lib.hid hir
      have HROW := Lib.hid hrow
      have hcp := hir.cell
      have HCALL := Lib.hid (rnumber_any wr (some g) _ _ hir.rd)
      have HS : Hid (restN (k + 1) s1 = rest (restN k s1) 8 ∧ brkN (k + 1) s1 c1 = brk (restN k s1) (brkN k s1 c1) 8 ∧ (readN (k + 1) s1).map (Value.int .i64) = (readN k s1).map (Value.int .i64) ++ [Value.int .i64 (IntKind.i64.wrap (num (restN k s1) 8 : Nat))]) := Lib.hid ⟨rfl, rfl, by rw [readN, List.map_append]; rfl⟩
      obtain ⟨A3, n3, k3, hv3⟩ := own_slice hrow
      clear hir hrow hfr
      subst hv3
      go_wp2_with fail
      refine HCALL.out.mono ?_
      rintro e w2 ⟨rfl, hr2, hf2⟩
      have HI2 := Lib.hid (HIR.out.move hr2 hf2)
      have HF2 := Lib.hid (foot_trans HFR.out hf2)
      have HROW2 : Hid (w2.ownsRow w.heap.size 3 1 (.slice A3 n3 k3) k ((readN k s1).map (Value.int .i64))) := Lib.hid (row_only HROW.out hf2 fun i hi e => by
        have := (HROW.out.lt i hi).1
        have := HPG.out.2
        have := Option.some.inj e
        omega)
      obtain ⟨x, hx⟩ : ∃ x, x = IntKind.i64.wrap (num (restN k s1) 8 : Nat) := ⟨_, rfl⟩
      rw [← hx] at HS ⊢
      clear hr2 hf2 HCALL hx hcp
      obtain ⟨i0, hi, hz0, hz1, hz2⟩ := info_parts infoInt
      have hm : k + 1 ≤ maxLen := by unfold maxLen; omega
      have HB2 : Hid (w.heap.size ≤ w2.heap.size) := Lib.hid HF2.out.size
      go_wp2_with (at_builtin
                   have hown3 := HROW2.out.alloc (.cells #[.int .i64 x] 3)
                   have hcell3 := cells_new w2 3 [.int .i64 x] #[.int .i64 x] rfl
                   refine wpList_append_own_at _ rfl (.tmp 10) (.tmp 16) 25 rfl w.heap.size 3 i0 (.int .i64 0) 1 8 Try.underlying25 hi hz0 hz1 hz2 rfl (by decide) (.slice A3 n3 k3) k ((readN k s1).map (Value.int .i64)) rfl hown3 ⟨w2.heap.size, 0, none⟩ 1 1 [.int .i64 x] rfl rfl (fun j u hu => by rw [addr_add]; exact hcell3.cell hu) (by intro u hu; simp at hu; subst hu; rfl) hm (by omega) (by have := HB2.out; simp; omega) ?_
                   intro v' w3 ho3 hg3 hx3 hat3
                   clear hx3 hown3 hcell3
                   rw [← HS.out.2.2] at ho3
                   have HO3 := Lib.hid ho3
                   have HG3 : Hid (Only (fun i => some i = (Value.slice A3 n3 k3).ownBlock) w2 w3) := Lib.hid ((Only.of_below (below_alloc w2 _)).trans (Only.of_grown hg3) fun _ _ h => h)
                   clear ho3 hg3 hat3)
      go_roundw
      case rel =>
        refine ⟨k + 1, by omega, by go_num, HO3.out, ?_, ?_⟩
        · rw [HS.out.1, HS.out.2.1]
          refine HI2.out.only HG3.out ?_ ?_
          · intro e
            have := (HROW2.out.lt p e.symm).1
            have := HPG.out.1
            omega
          · intro e
            have := (HROW2.out.lt g e.symm).1
            have := HPG.out.2
            omega
        · refine HF2.out.trans HG3.out fun i hi e => ?_
          have := (HROW2.out.lt i e.symm).1
          omega
      case measure => simp [intOf]; omega
    · obtain rfl : k = N := by omega
      have HROW := Lib.hid hrow
      have HIR := Lib.hid hir
      have HFR := Lib.hid hfr
      have HBR := Lib.hid (broken_any wr p g _ _ hir)
      clear hrow hir hfr
      go_wp2_with fail
      refine HBR.out.mono ?_
      rintro e w2 ⟨rfl, rfl⟩
      by_cases hb : brkN k s1 c1 = true
      · rw [hb]
        have HV : Hid (readNodes s0 c0 = []) := Lib.hid (by rw [HRI.out.1, if_pos hb])
        have HIQ := HIR.out
        rw [← HRI.out.2.1, ← HRI.out.2.2] at HIQ
        have HIQ := Lib.hid HIQ
        clear hb
        go_wp2_with fail
        go_returns
        exact ⟨.slice none 0 0, rfl, by rw [HV.out]; exact World.ownsRow_nil _ _ _ _, HIQ.out, HFR.out⟩
      · have hbf : brkN k s1 c1 = false := by simpa using hb
        rw [hbf]
        have HV : Hid (readNodes s0 c0 = readN k s1) := Lib.hid (by rw [HRI.out.1, if_neg hb])
        have HL := Lib.hid (readN_length k s1)
        have HIQ := HIR.out
        rw [← HRI.out.2.1, ← HRI.out.2.2] at HIQ
        have HIQ := Lib.hid HIQ
        clear hb hbf
        go_wp2_with fail
        go_returns
        exact ⟨u3, rfl, by rw [HV.out, HL.out]; exact HROW.out, HIQ.out, HFR.out⟩
end Go.Proofs.Ytfnkjdkckpdfhaa.Item
