/-
  Layer 14: Decode; the document's Right, Bytes. Conditions: none.
-/
import Derived.Test.YtifcpglifcjdjaaSesBs
import Derived.Test.YtifcpglifcjdjaaSesRight
import Derived.Test.YtifcpglifcjdjaaSub
namespace Go.Proofs.Ytifcpglifcjdjaa.Ses
set_option maxRecDepth 100000
open Go.RowKit Go.Deep Go.Proofs.Ytifcpglifcjdjaa.Mem
open Go.Proofs.Ytifcpglifcjdjaa.Wire (num rest tk brk endV Rd Foot)

def zeroE : Ev := ⟨0, 0, 0, 0, ⟨#[]⟩⟩
/-- What Decode answers. -/
def decR (s : ByteArray) : Ev × Int := match decV s with
  | some e => (e, 0)
  | none => (zeroE, 2)
abbrev Ev.cells (e : Ev) : Array Value := #[.int .i64 e.kind, .int .i64 e.epoch, .int .i64 e.peer, .int .i64 e.seq, .string e.pay]
theorem le_rest {u s : ByteArray} (h : u.size ≤ s.size) (n : Nat) : (rest u n).size ≤ s.size := Nat.le_trans (Wire.rest_size u n) h
theorem le_tk {u s : ByteArray} (h : u.size ≤ s.size) (n : Nat) : (tk u n).size ≤ s.size := Nat.le_trans (Wire.tk_size' u n) h
theorem dec_small (s : ByteArray) : (decA s).1.pay.size ≤ s.size := by
  by_cases h : num s 1 = 1
  · have e : (decA s).1.pay = tk (rest (rest (rest (rest (rest s 1) 8) 8) 8) 2) (num (rest (rest (rest (rest s 1) 8) 8) 8) 2) := by
      unfold decA
      simp only [h, if_true]
    rw [e]
    exact le_tk (le_rest (le_rest (le_rest (le_rest (le_rest (Nat.le_refl _) 1) 8) 8) 8) 2) _
  · have e : (decA s).1.pay = ⟨#[]⟩ := by
      unfold decA
      simp only [h, if_false]
    rw [e]
    exact Nat.zero_le _
/-- Behind the reading: what is answered. -/
theorem decEnd {w wr : World} {e : Ev} {t : ByteArray} {b : Bool} {g o eb : Nat} {s : ByteArray} (hA : decA s = (e, t, b)) (hrd : Rd wr (some g) t b) (hout : Cells wr o 23 zeroE.vals) (hbox : Cells wr eb 23 e.vals) (hne : o ≠ eb) (hw : Below w.heap.size w wr) (ho : w.heap.size ≤ o) (hs : s.size ≤ 140737488355328)
    {cc : Code} (hc : cc = sub [1, 1, 1, 1, 1] ((Try.f12.body).getD .skip)) {s1 s3 s6 s7 s8 s9 s10 s11 s12 s13 s14 s15 s16 s17 s18 s19 s20 s21 s22 s23 s24 s25 s26 s27 s28 s29 s30 s31 s32 s33 s34 s35 s36 : Value} :
    cc.wp Try.prog (bodyPost Try.prog Try.f12 (fun r w' => r = .returned (.tuple #[.agg (decR s).1.cells, .int .i64 (decR s).2]) ∧ Below w.heap.size w w')) { tmps := List.toArray ((.string s)::s1::(.pointer (some ⟨o, 0, none⟩))::s3::(.pointer (some ⟨g, 0, none⟩))::(.pointer (some ⟨eb, 0, none⟩))::s6::s7::s8::s9::s10::s11::s12::s13::s14::s15::s16::s17::s18::s19::s20::s21::s22::s23::s24::s25::s26::s27::s28::s29::s30::s31::s32::s33::s34::s35::s36::[]), defers := [] } wr := by
  conv at hc => rhs; whnf
  subst hc
  obtain ⟨kd, ep, pe, sq, pay⟩ := e
  have HEN := Lib.hid (Wire.end_any wr (some g) t b hrd)
  obtain ⟨v, hv⟩ : ∃ v, endV t b = v := ⟨_, rfl⟩
  rw [hv] at HEN
  have hdv : decV s = if v = 0 ∧ rightE ⟨kd, ep, pe, sq, pay⟩ = true then some ⟨kd, ep, pe, sq, pay⟩ else none := by
    unfold decV
    rw [hA]
    dsimp only
    rw [hv]
  have hps : pay.size ≤ 140737488355328 := by
    have := dec_small s
    rw [hA] at this
    dsimp only at this
    omega
  have hout : Cells wr o 23 [.int .i64 0, .int .i64 0, .int .i64 0, .int .i64 0, .string ⟨#[]⟩] := hout
  have c0 := hout.cell (j := 0) rfl
  have f0 := hout.frozen (j := 0) (by simp)
  have c1 := hout.cell (j := 1) rfl
  have f1 := hout.frozen (j := 1) (by simp)
  have c2 := hout.cell (j := 2) rfl
  have f2 := hout.frozen (j := 2) (by simp)
  have c3 := hout.cell (j := 3) rfl
  have f3 := hout.frozen (j := 3) (by simp)
  have c4 := hout.cell (j := 4) rfl
  have f4 := hout.frozen (j := 4) (by simp)
  have y0 := hbox.cell (j := 0) rfl
  have y1 := hbox.cell (j := 1) rfl
  have y2 := hbox.cell (j := 2) rfl
  have y3 := hbox.cell (j := 3) rfl
  have y4 := hbox.cell (j := 4) rfl
  dsimp only at y0 y1 y2 y3 y4
  by_cases hv0 : v = 0
  · subst hv0
    have HRT := Lib.hid (right_any ⟨kd, ep, pe, sq, pay⟩ hps wr)
    unfold Ev.val at HRT
    dsimp only at HRT
    by_cases hr : rightE ⟨kd, ep, pe, sq, pay⟩ = true
    · rw [hr] at HRT
      rw [if_pos ⟨rfl, hr⟩] at hdv
      have hR : decR s = (⟨kd, ep, pe, sq, pay⟩, 0) := by unfold decR; rw [hdv]
      rw [hR]
      have HOU := Lib.hid hout
      have HBX := Lib.hid hbox
      have HW := Lib.hid hw
      have HNE := Lib.hid hne
      clear hA hrd hv hdv hR hr hout hbox hw hps c0 c1 c2 c3 c4 f0 f1 f2 f3 f4
      apply wp_seq_k
      intro K hK
      have HKT := Lib.hid hK
      clear hK
      go_wp2_with fail
      refine HEN.out.mono ?_
      rintro r w1 ⟨rfl, rfl⟩
      go_wp2_with fail
      refine HRT.out.mono ?_
      rintro r w2 ⟨rfl, hb2⟩
      have hout2 := HOU.out.later hb2
      have hbox2 := HBX.out.later hb2
      have c0 := hout2.cell (j := 0) rfl
      have f0 := hout2.frozen (j := 0) (by simp)
      have c1 := hout2.cell (j := 1) rfl
      have f1 := hout2.frozen (j := 1) (by simp)
      have c2 := hout2.cell (j := 2) rfl
      have f2 := hout2.frozen (j := 2) (by simp)
      have c3 := hout2.cell (j := 3) rfl
      have f3 := hout2.frozen (j := 3) (by simp)
      have c4 := hout2.cell (j := 4) rfl
      have f4 := hout2.frozen (j := 4) (by simp)
      have y0 := hbox2.cell (j := 0) rfl
      have y1 := hbox2.cell (j := 1) rfl
      have y2 := hbox2.cell (j := 2) rfl
      have y3 := hbox2.cell (j := 3) rfl
      have y4 := hbox2.cell (j := 4) rfl
      dsimp only at y0 y1 y2 y3 y4
      have hw2 : Below w.heap.size w w2 := HW.out.trans (hb2.mono HW.out.size)
      have HPT : Hid (Cells (((((w2.setCell ⟨o, 0, none⟩ (.int .i64 kd)).setCell ⟨o, 1, none⟩ (.int .i64 ep)).setCell ⟨o, 2, none⟩ (.int .i64 pe)).setCell ⟨o, 3, none⟩ (.int .i64 sq)).setCell ⟨o, 4, none⟩ (.string pay)) o 23 [.int .i64 kd, .int .i64 ep, .int .i64 pe, .int .i64 sq, .string pay]) := Lib.hid (((((hout2.set_ 0 (.int .i64 kd)).set_ 1 (.int .i64 ep)).set_ 2 (.int .i64 pe)).set_ 3 (.int .i64 sq)).set_ 4 (.string pay))
      have HFB : Hid (Below w.heap.size w (((((w2.setCell ⟨o, 0, none⟩ (.int .i64 kd)).setCell ⟨o, 1, none⟩ (.int .i64 ep)).setCell ⟨o, 2, none⟩ (.int .i64 pe)).setCell ⟨o, 3, none⟩ (.int .i64 sq)).setCell ⟨o, 4, none⟩ (.string pay))) := Lib.hid (hw2.trans ((((((Only.of_set w2 ⟨o, 0, none⟩ (.int .i64 kd)).trans (Only.of_set (w2.setCell ⟨o, 0, none⟩ (.int .i64 kd)) ⟨o, 1, none⟩ (.int .i64 ep)) fun _ _ e => e).trans (Only.of_set ((w2.setCell ⟨o, 0, none⟩ (.int .i64 kd)).setCell ⟨o, 1, none⟩ (.int .i64 ep)) ⟨o, 2, none⟩ (.int .i64 pe)) fun _ _ e => e).trans (Only.of_set (((w2.setCell ⟨o, 0, none⟩ (.int .i64 kd)).setCell ⟨o, 1, none⟩ (.int .i64 ep)).setCell ⟨o, 2, none⟩ (.int .i64 pe)) ⟨o, 3, none⟩ (.int .i64 sq)) fun _ _ e => e).trans (Only.of_set ((((w2.setCell ⟨o, 0, none⟩ (.int .i64 kd)).setCell ⟨o, 1, none⟩ (.int .i64 ep)).setCell ⟨o, 2, none⟩ (.int .i64 pe)).setCell ⟨o, 3, none⟩ (.int .i64 sq)) ⟨o, 4, none⟩ (.string pay)) fun _ _ e => e).below hw2.size fun k e2 => by rw [show k = o from e2]; exact ho))
      clear hb2 hout2 hbox2 hw2
      go_wp2_with fail
      refine HKT.out _ _ ?_
      clear HKT
      go_wp2_with fail
      refine bodyPost_ret (v := .tuple #[.agg #[.int .i64 kd, .int .i64 ep, .int .i64 pe, .int .i64 sq, .string pay], .int .i64 0]) ?_ rfl ?_
      · exact (ret_cell_tmp (p := 2) (q := 3) (ty := 23) (by rfl) _ HPT.out _ (by rfl) Try.underlying23 rfl (by kernel_rfl)).trans (by rfl)
      · exact ⟨rfl, HFB.out⟩
    · have hr2 : rightE ⟨kd, ep, pe, sq, pay⟩ = false := by simpa using hr
      rw [hr2] at HRT
      rw [if_neg (fun e => hr e.2)] at hdv
      have hR : decR s = (zeroE, 2) := by unfold decR; rw [hdv]
      rw [hR]
      have HOU := Lib.hid hout
      have HW := Lib.hid hw
      clear hA hrd hv hdv hR hr hr2 hout hbox hw hps c0 c1 c2 c3 c4 f0 f1 f2 f3 f4
      apply wp_seq_k
      intro K hK
      have HKT := Lib.hid hK
      clear hK
      go_wp2_with fail
      refine HEN.out.mono ?_
      rintro r w1 ⟨rfl, rfl⟩
      go_wp2_with fail
      refine HRT.out.mono ?_
      rintro r w2 ⟨rfl, hb2⟩
      have hout2 := HOU.out.later hb2
      have c0 := hout2.cell (j := 0) rfl
      have f0 := hout2.frozen (j := 0) (by simp)
      have c1 := hout2.cell (j := 1) rfl
      have f1 := hout2.frozen (j := 1) (by simp)
      have c2 := hout2.cell (j := 2) rfl
      have f2 := hout2.frozen (j := 2) (by simp)
      have c3 := hout2.cell (j := 3) rfl
      have f3 := hout2.frozen (j := 3) (by simp)
      have c4 := hout2.cell (j := 4) rfl
      have f4 := hout2.frozen (j := 4) (by simp)
      have hw2 : Below w.heap.size w w2 := HW.out.trans (hb2.mono HW.out.size)
      have HPT : Hid (Cells (((((w2.setCell ⟨o, 0, none⟩ (.int .i64 0)).setCell ⟨o, 1, none⟩ (.int .i64 0)).setCell ⟨o, 2, none⟩ (.int .i64 0)).setCell ⟨o, 3, none⟩ (.int .i64 0)).setCell ⟨o, 4, none⟩ (.string ⟨#[]⟩)) o 23 [.int .i64 0, .int .i64 0, .int .i64 0, .int .i64 0, .string ⟨#[]⟩]) := Lib.hid (((((hout2.set_ 0 (.int .i64 0)).set_ 1 (.int .i64 0)).set_ 2 (.int .i64 0)).set_ 3 (.int .i64 0)).set_ 4 (.string ⟨#[]⟩))
      have HFB : Hid (Below w.heap.size w (((((w2.setCell ⟨o, 0, none⟩ (.int .i64 0)).setCell ⟨o, 1, none⟩ (.int .i64 0)).setCell ⟨o, 2, none⟩ (.int .i64 0)).setCell ⟨o, 3, none⟩ (.int .i64 0)).setCell ⟨o, 4, none⟩ (.string ⟨#[]⟩))) := Lib.hid (hw2.trans ((((((Only.of_set w2 ⟨o, 0, none⟩ (.int .i64 0)).trans (Only.of_set (w2.setCell ⟨o, 0, none⟩ (.int .i64 0)) ⟨o, 1, none⟩ (.int .i64 0)) fun _ _ e => e).trans (Only.of_set ((w2.setCell ⟨o, 0, none⟩ (.int .i64 0)).setCell ⟨o, 1, none⟩ (.int .i64 0)) ⟨o, 2, none⟩ (.int .i64 0)) fun _ _ e => e).trans (Only.of_set (((w2.setCell ⟨o, 0, none⟩ (.int .i64 0)).setCell ⟨o, 1, none⟩ (.int .i64 0)).setCell ⟨o, 2, none⟩ (.int .i64 0)) ⟨o, 3, none⟩ (.int .i64 0)) fun _ _ e => e).trans (Only.of_set ((((w2.setCell ⟨o, 0, none⟩ (.int .i64 0)).setCell ⟨o, 1, none⟩ (.int .i64 0)).setCell ⟨o, 2, none⟩ (.int .i64 0)).setCell ⟨o, 3, none⟩ (.int .i64 0)) ⟨o, 4, none⟩ (.string ⟨#[]⟩)) fun _ _ e => e).below hw2.size fun k e2 => by rw [show k = o from e2]; exact ho))
      clear hb2 hout2 hw2
      go_wp2_with fail
      refine bodyPost_ret (v := .tuple #[.agg #[.int .i64 0, .int .i64 0, .int .i64 0, .int .i64 0, .string ⟨#[]⟩], .int .i64 2]) ?_ rfl ?_
      · exact (ret_cell_tmp (p := 2) (q := 3) (ty := 23) (by rfl) _ HPT.out _ (by rfl) Try.underlying23 rfl (by kernel_rfl)).trans (by rfl)
      · exact ⟨rfl, HFB.out⟩
  · rw [if_neg (fun e => hv0 e.1)] at hdv
    have hR : decR s = (zeroE, 2) := by unfold decR; rw [hdv]
    rw [hR]
    have e1 : (v == 0) = false := by simpa using hv0
    have e2 : (v != 0) = true := by simpa using hv0
    have HPT : Hid (Cells (((((wr.setCell ⟨o, 0, none⟩ (.int .i64 0)).setCell ⟨o, 1, none⟩ (.int .i64 0)).setCell ⟨o, 2, none⟩ (.int .i64 0)).setCell ⟨o, 3, none⟩ (.int .i64 0)).setCell ⟨o, 4, none⟩ (.string ⟨#[]⟩)) o 23 [.int .i64 0, .int .i64 0, .int .i64 0, .int .i64 0, .string ⟨#[]⟩]) := Lib.hid (((((hout.set_ 0 (.int .i64 0)).set_ 1 (.int .i64 0)).set_ 2 (.int .i64 0)).set_ 3 (.int .i64 0)).set_ 4 (.string ⟨#[]⟩))
    have HFB : Hid (Below w.heap.size w (((((wr.setCell ⟨o, 0, none⟩ (.int .i64 0)).setCell ⟨o, 1, none⟩ (.int .i64 0)).setCell ⟨o, 2, none⟩ (.int .i64 0)).setCell ⟨o, 3, none⟩ (.int .i64 0)).setCell ⟨o, 4, none⟩ (.string ⟨#[]⟩))) := Lib.hid (hw.trans ((((((Only.of_set wr ⟨o, 0, none⟩ (.int .i64 0)).trans (Only.of_set (wr.setCell ⟨o, 0, none⟩ (.int .i64 0)) ⟨o, 1, none⟩ (.int .i64 0)) fun _ _ e => e).trans (Only.of_set ((wr.setCell ⟨o, 0, none⟩ (.int .i64 0)).setCell ⟨o, 1, none⟩ (.int .i64 0)) ⟨o, 2, none⟩ (.int .i64 0)) fun _ _ e => e).trans (Only.of_set (((wr.setCell ⟨o, 0, none⟩ (.int .i64 0)).setCell ⟨o, 1, none⟩ (.int .i64 0)).setCell ⟨o, 2, none⟩ (.int .i64 0)) ⟨o, 3, none⟩ (.int .i64 0)) fun _ _ e => e).trans (Only.of_set ((((wr.setCell ⟨o, 0, none⟩ (.int .i64 0)).setCell ⟨o, 1, none⟩ (.int .i64 0)).setCell ⟨o, 2, none⟩ (.int .i64 0)).setCell ⟨o, 3, none⟩ (.int .i64 0)) ⟨o, 4, none⟩ (.string ⟨#[]⟩)) fun _ _ e => e).below hw.size fun k e2 => by rw [show k = o from e2]; exact ho))
    clear hA hrd hv hdv hR hv0 hout hbox hw hps y0 y1 y2 y3 y4
    apply wp_seq_k
    intro K hK
    have HKT := Lib.hid hK
    clear hK
    go_wp2_with fail
    refine HEN.out.mono ?_
    rintro r w1 ⟨rfl, rfl⟩
    go_wp2_with fail
    refine bodyPost_ret (v := .tuple #[.agg #[.int .i64 0, .int .i64 0, .int .i64 0, .int .i64 0, .string ⟨#[]⟩], .int .i64 2]) ?_ rfl ?_
    · exact (ret_cell_tmp (p := 2) (q := 3) (ty := 23) (by rfl) _ HPT.out _ (by rfl) Try.underlying23 rfl (by kernel_rfl)).trans (by rfl)
    · exact ⟨rfl, HFB.out⟩
set_option maxHeartbeats 1000000 in
theorem Decode_any (s : ByteArray) (hs : s.size ≤ 140737488355328) (w : World) :
    Calls Try.prog 12 #[.string s] w fun r w' => r = .returned (.tuple #[.agg (decR s).1.cells, .int .i64 (decR s).2]) ∧ Below w.heap.size w w' := by
  obtain ⟨wa, hwa⟩ : ∃ W, W = w.alloc (.cells #[.int .i64 0, .int .i64 0, .int .i64 0, .int .i64 0, .string ⟨#[]⟩] 23) := ⟨_, rfl⟩
  have hba : Below w.heap.size w wa := by rw [hwa]; exact below_alloc _ _
  have hca : Cells wa w.heap.size 23 zeroE.vals := by rw [hwa]; exact cells_new _ _ _ _ rfl
  have hsa : wa.heap.size = w.heap.size + 1 := by rw [hwa]; exact World.size_alloc _ _
  have HNR := Lib.hid (Wire.newReader_any wa s hs)
  obtain ⟨g, hg⟩ : ∃ g, wa.heap.size = g := ⟨_, rfl⟩
  rw [hg] at HNR
  have HG := Lib.hid hg
  have HSA := Lib.hid hsa
  have HCA := Lib.hid hca
  have HBA := Lib.hid hba
  obtain ⟨n0, hn0⟩ : ∃ n, num s 1 = n := ⟨_, rfl⟩
  have hlt := Wire.num_lt s 1 1 (Nat.le_refl _)
  rw [hn0] at hlt
  have HN0 := Lib.hid hn0
  clear hba hca hsa hg hn0
  go_enter Try.func12, Try.ntmps12
  apply wp_seq_k
  intro K hK
  have HKT := Lib.hid hK
  clear hK
  go_wp2_with fail
  refine HKT.out _ _ ?_
  clear HKT
  rw [← hwa]
  clear hwa
  apply wp_seq_k
  intro K hK
  have HKT := Lib.hid hK
  clear hK
  go_wp2_with fail
  refine HNR.out.mono ?_
  rintro r w1 ⟨rfl, hr1, hb1⟩
  have HO1 : Hid (Cells w1 w.heap.size 23 zeroE.vals) := Lib.hid (HCA.out.below hb1 (by have := HSA.out; have := HG.out; omega))
  have HB1 : Hid (Below w.heap.size w w1) := Lib.hid (HBA.out.trans (hb1.mono (by have := HSA.out; have := HG.out; omega)))
  have hby := Wire.rbyte_any w1 (some g) s false hr1
  rw [HN0.out] at hby
  have HBY := Lib.hid hby
  clear hr1 hb1 hby HNR
  unfold Wire.ptr at HBY ⊢
  go_wp2_with fail
  refine HKT.out _ _ ?_
  clear HKT
  apply wp_seq_k
  intro K hK
  have HKT := Lib.hid hK
  clear hK
  go_wp2_with fail
  refine HBY.out.mono ?_
  rintro r w2 ⟨rfl, hr2, hf2⟩
  obtain ⟨w3, hw3⟩ : ∃ W, W = w2.alloc (.cells #[.int .i64 (n0 : Int), .int .i64 0, .int .i64 0, .int .i64 0, .string ⟨#[]⟩] 23) := ⟨_, rfl⟩
  have hb3 : Below w2.heap.size w2 w3 := by rw [hw3]; exact below_alloc _ _
  have hc3 : Cells w3 w2.heap.size 23 [.int .i64 (n0 : Int), .int .i64 0, .int .i64 0, .int .i64 0, .string ⟨#[]⟩] := by rw [hw3]; exact cells_new _ _ _ _ rfl
  have hglt : g < w2.heap.size := (hr2.cells g rfl).lt
  obtain ⟨eb, heb⟩ : ∃ eb, w2.heap.size = eb := ⟨_, rfl⟩
  have HGE : Hid (g < eb) := Lib.hid (by omega)
  have HOG : Hid (w.heap.size + 1 = g) := Lib.hid (by have := HSA.out; have := HG.out; omega)
  have HO3 : Hid (Cells w3 w.heap.size 23 zeroE.vals) := Lib.hid ((cells_only HO1.out hf2 (by have := HOG.out; intro e; cases e; omega)).later hb3)
  have HB3 : Hid (Below w.heap.size w w3) := Lib.hid ((HB1.out.trans (hf2.below HB1.out.size fun k e => by cases e; have := HOG.out; omega)).trans (hb3.mono (by have := HGE.out; have := HOG.out; omega)))
  have HRD3 := Lib.hid (hr2.later hb3)
  rw [heb] at hc3
  have HC3 := Lib.hid hc3
  have HEB := Lib.hid heb
  have hwr8 : IntKind.i64.wrap (n0 : Int) = (n0 : Int) := by rw [IntKind.wrap_i64]; omega
  clear hr2 hf2 hb3 hc3 hglt HBY HO1 HB1 heb
  go_wp2_with fail
  rw [← hw3, HEB.out]
  refine HKT.out _ _ ?_
  clear HKT hw3 HEB
  apply wp_seq_k
  intro K hK
  have HKT := Lib.hid hK
  clear hK
  have hn1 := Wire.rnumber_any w3 (some g) _ _ HRD3.out
  obtain ⟨s1, hs1⟩ : ∃ x, rest s 1 = x := ⟨_, rfl⟩
  obtain ⟨b1, hb1⟩ : ∃ x, brk s false 1 = x := ⟨_, rfl⟩
  rw [hs1, hb1] at hn1
  obtain ⟨ep, hep⟩ : ∃ x, IntKind.i64.wrap (num s1 8 : Nat) = x := ⟨_, rfl⟩
  rw [hep] at hn1
  have HN1 := Lib.hid hn1
  have HE1 := Lib.hid (And.intro hs1 (And.intro hb1 hep))
  clear hn1 hs1 hb1 hep HRD3
  unfold Wire.ptr at HN1
  go_wp2_with fail
  refine HN1.out.mono ?_
  rintro r w4 ⟨rfl, hr4, hf4⟩
  have hn2 := Wire.rnumber_any w4 (some g) _ _ hr4
  obtain ⟨s2, hs2⟩ : ∃ x, rest s1 8 = x := ⟨_, rfl⟩
  obtain ⟨b2, hb2⟩ : ∃ x, brk s1 b1 8 = x := ⟨_, rfl⟩
  rw [hs2, hb2] at hn2
  obtain ⟨pe, hpe⟩ : ∃ x, IntKind.i64.wrap (num s2 8 : Nat) = x := ⟨_, rfl⟩
  rw [hpe] at hn2
  have HN2 := Lib.hid hn2
  have HE2 := Lib.hid (And.intro hs2 (And.intro hb2 hpe))
  have HF4 := Lib.hid hf4
  clear hn2 hs2 hb2 hpe hr4 hf4 HN1
  unfold Wire.ptr at HN2
  go_wp2_with fail
  refine HN2.out.mono ?_
  rintro r w5 ⟨rfl, hr5, hf5⟩
  have hn3 := Wire.rnumber_any w5 (some g) _ _ hr5
  obtain ⟨s3, hs3⟩ : ∃ x, rest s2 8 = x := ⟨_, rfl⟩
  obtain ⟨b3, hb3⟩ : ∃ x, brk s2 b2 8 = x := ⟨_, rfl⟩
  rw [hs3, hb3] at hn3
  obtain ⟨sq, hsq⟩ : ∃ x, IntKind.i64.wrap (num s3 8 : Nat) = x := ⟨_, rfl⟩
  rw [hsq] at hn3
  have HN3 := Lib.hid hn3
  have HE3 := Lib.hid (And.intro hs3 (And.intro hb3 hsq))
  have HF5 := Lib.hid (HF4.out.trans hf5 fun _ _ e => e)
  clear hn3 hs3 hb3 hsq hr5 hf5 HN2 HF4
  unfold Wire.ptr at HN3
  go_wp2_with fail
  refine HN3.out.mono ?_
  rintro r w6 ⟨rfl, hr6, hf6⟩
  have hf := HF5.out.trans hf6 fun _ _ e => e
  have hne : ¬ some eb = some g := by
    have := HGE.out
    intro e
    cases e
    omega
  have hc6 := cells_only HC3.out hf hne
  have d1 := hc6.cell (j := 1) rfl
  have d2 := hc6.cell (j := 2) rfl
  have d3 := hc6.cell (j := 3) rfl
  have q1 := hc6.frozen (j := 1) (by simp)
  have q2 := hc6.frozen (j := 2) (by simp)
  have q3 := hc6.frozen (j := 3) (by simp)
  have hc7 : Cells (((w6.setCell ⟨eb, 1, none⟩ (.int .i64 ep)).setCell ⟨eb, 2, none⟩ (.int .i64 pe)).setCell ⟨eb, 3, none⟩ (.int .i64 sq)) eb 23 [.int .i64 (n0 : Int), .int .i64 ep, .int .i64 pe, .int .i64 sq, .string ⟨#[]⟩] := ((hc6.set_ 1 (.int .i64 ep)).set_ 2 (.int .i64 pe)).set_ 3 (.int .i64 sq)
  have ho7 : Only (fun k => k = eb) w6 (((w6.setCell ⟨eb, 1, none⟩ (.int .i64 ep)).setCell ⟨eb, 2, none⟩ (.int .i64 pe)).setCell ⟨eb, 3, none⟩ (.int .i64 sq)) := ((Only.of_set w6 ⟨eb, 1, none⟩ (.int .i64 ep)).trans (Only.of_set _ ⟨eb, 2, none⟩ (.int .i64 pe)) fun _ _ e => e).trans (Only.of_set _ ⟨eb, 3, none⟩ (.int .i64 sq)) fun _ _ e => e
  obtain ⟨w7, hw7⟩ : ∃ W, W = (((w6.setCell ⟨eb, 1, none⟩ (.int .i64 ep)).setCell ⟨eb, 2, none⟩ (.int .i64 pe)).setCell ⟨eb, 3, none⟩ (.int .i64 sq)) := ⟨_, rfl⟩
  rw [← hw7] at hc7 ho7
  have HC7 := Lib.hid hc7
  have hoo : ¬ some w.heap.size = some g := by
    have := HOG.out
    intro e
    cases e
    omega
  have HO7 : Hid (Cells w7 w.heap.size 23 zeroE.vals) := Lib.hid (cells_only (cells_only HO3.out hf hoo) ho7 (by have := HGE.out; have := HOG.out; omega))
  have HB7 : Hid (Below w.heap.size w w7) := Lib.hid ((HB3.out.trans (hf.below HB3.out.size fun k e => by cases e; have := HOG.out; omega)).trans (ho7.below (Nat.le_trans HB3.out.size hf.size) fun k e => by have := HGE.out; have := HOG.out; omega))
  have HR7 : Hid (Rd w7 (some g) (rest s3 8) (brk s3 b3 8)) := Lib.hid (hr6.only ho7 fun k e => by cases e; have := HGE.out; omega)
  clear hr6 hf6 hf hne hc6 hc7 ho7 hoo HN3 HC3 HO3 HB3 HF5
  go_wp2_with fail
  rw [← hw7]
  refine HKT.out _ _ ?_
  clear HKT hw7 d1 d2 d3 q1 q2 q3
  have y0 := HC7.out.cell (j := 0) rfl
  have hAA : decA s = if n0 = 1 then (⟨1, ep, pe, sq, tk (rest (rest s3 8) 2) (num (rest s3 8) 2)⟩, rest (rest (rest s3 8) 2) (num (rest s3 8) 2), brk (rest (rest s3 8) 2) (brk (rest s3 8) (brk s3 b3 8) 2) (num (rest s3 8) 2)) else (⟨n0, ep, pe, sq, ⟨#[]⟩⟩, rest s3 8, brk s3 b3 8) := by
    obtain ⟨a1, a2, a3⟩ := HE1.out
    obtain ⟨a4, a5, a6⟩ := HE2.out
    obtain ⟨a7, a8, a9⟩ := HE3.out
    unfold decA
    dsimp only
    rw [HN0.out, a1, a2, a4, a5, a7, a8, a3, a6, a9]
  apply wp_seq_k
  intro K hK
  have HKT := Lib.hid hK
  clear hK
  by_cases hk : n0 = 1
  · subst hk
    rw [if_pos rfl] at hAA
    have hrt := Wire.rtext_any w7 (some g) _ _ HR7.out
    unfold Wire.ptr at hrt
    have HRT := Lib.hid hrt
    have HAA := Lib.hid hAA
    clear hAA hrt
    go_wp2_with fail
    refine HRT.out.mono ?_
    rintro r w8 ⟨rfl, hr8, hf8⟩
    have hne : ¬ some eb = some g := by
      have := HGE.out
      intro e
      cases e
      omega
    have hoo : ¬ some w.heap.size = some g := by
      have := HOG.out
      intro e
      cases e
      omega
    have hc8 := cells_only HC7.out hf8 hne
    have d4 := hc8.cell (j := 4) rfl
    have q4 := hc8.frozen (j := 4) (by simp)
    obtain ⟨pay, hpay⟩ : ∃ x, tk (rest (rest s3 8) 2) (num (rest s3 8) 2) = x := ⟨_, rfl⟩
    have hset := Only.of_set w8 ⟨eb, 4, none⟩ (.string pay)
    have hc9 := hc8.set_ 4 (.string pay)
    have hr9 := hr8.only hset fun k e => by cases e; intro e2; have h1 : g = eb := e2; have := HGE.out; omega
    have ho9 := cells_only (cells_only HO7.out hf8 hoo) hset (by intro e2; have h1 : w.heap.size = eb := e2; have := HGE.out; have := HOG.out; omega)
    have hb9 := (HB7.out.trans (hf8.below HB7.out.size fun k e => by cases e; have := HOG.out; omega)).trans (hset.below (Nat.le_trans HB7.out.size hf8.size) fun k e => by have h1 : k = eb := e; have := HGE.out; have := HOG.out; omega)
    have HX := Lib.hid (And.intro hc9 (And.intro hr9 (And.intro ho9 hb9)))
    have hAA := HAA.out
    rw [hpay] at hAA ⊢
    have HA2 := Lib.hid hAA
    clear hr8 hf8 hc8 hset hc9 hr9 ho9 hb9 hAA HAA hpay hne hoo
    go_wp2_with fail
    exact HKT.out _ _ (decEnd HA2.out HX.out.2.1 HX.out.2.2.1 HX.out.1 (by have := HGE.out; have := HOG.out; omega) HX.out.2.2.2 (Nat.le_refl _) hs (by kernel_rfl))
  · rw [if_neg hk] at hAA
    have e1 : ((n0 : Int) == 1) = false := by simp; omega
    have HAA := Lib.hid hAA
    clear hAA hk
    go_wp2_with fail
    exact HKT.out _ _ (decEnd HAA.out HR7.out HO7.out HC7.out (by have := HGE.out; have := HOG.out; omega) HB7.out (Nat.le_refl _) hs (by kernel_rfl))
end Go.Proofs.Ytifcpglifcjdjaa.Ses
