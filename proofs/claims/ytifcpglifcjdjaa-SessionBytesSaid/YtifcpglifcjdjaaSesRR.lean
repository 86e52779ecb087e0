/-
  Layer 14: the document's Read. Conditions: none.
-/
import Derived.Test.YtifcpglifcjdjaaSesRefB
import Derived.Test.YtifcpglifcjdjaaSesDec
import Derived.BigRegion
namespace Go.Proofs.Ytifcpglifcjdjaa.Ses
set_option maxRecDepth 100000
open Go.RowKit Go.Deep Go.Proofs.Ytifcpglifcjdjaa.Mem
open Go.Proofs.Ytifcpglifcjdjaa.Wire (bs bs_app bs_size big big_length u64 num head getV getB)

/-- What Read answers. -/
def readR (s : ByteArray) : Ev × Bool := match readM s with
  | some e => (e, true)
  | none => (zeroE, false)
theorem getV3 (u : ByteArray) (h : 8 ≤ u.size) : getV 3 u = .tuple #[.agg #[.int .i64 3, .int .i64 (IntKind.i64.wrap (head u 8 : Nat)), .string ⟨#[]⟩], .int .i64 8] := by
  unfold getV getB
  rw [if_neg (by show ¬ u.size < 8; omega), if_neg (by omega), if_pos (by omega)]
  rfl
theorem getV4_no (u : ByteArray) (h : decide (2 ≤ u.size ∧ 2 + head u 2 ≤ u.size) = false) : getV 4 u = .tuple #[.agg #[.int .i64 0, .int .i64 0, .string ⟨#[]⟩], .int .i64 0] := by
  have h1 := of_decide_eq_false h
  unfold getV getB
  by_cases h2 : u.size < 2
  · rw [if_pos (show u.size < Wire.sz 4 from h2)]
    rfl
  · rw [if_neg (show ¬ u.size < Wire.sz 4 from h2), if_neg (by omega), if_neg (by omega), if_pos (by omega)]
    rfl
theorem getV4 (u : ByteArray) (h : decide (2 ≤ u.size ∧ 2 + head u 2 ≤ u.size) = true) : getV 4 u = .tuple #[.agg #[.int .i64 4, .int .i64 0, .string (u.extract 2 (2 + head u 2))], .int .i64 ((2 + head u 2 : Nat) : Int)] := by
  have h1 := of_decide_eq_true h
  unfold getV getB
  rw [if_neg (show ¬ u.size < Wire.sz 4 from (by show ¬ u.size < 2; omega)), if_neg (by omega), if_neg (by omega), if_neg (by omega)]
  rfl
/-- Behind the reading: what is answered. -/
theorem readEnd {w wr : World} {e : Ev} {eb : Nat} {s : ByteArray} (hs : s.size ≤ 1000000) (he : e.pay.size ≤ 1000000) (hR : readR s = if rightE e = true ∧ bs (bytesE e) = s then (e, true) else (zeroE, false)) (hO : Cells wr w.heap.size 25 zeroE.vals) (hbox : Cells wr eb 25 e.vals) (hw : Below w.heap.size w wr) (_hle : w.heap.size < eb)
    {cc : Code} (hc : cc = sub [1, 1, 1, 1, 1, 1] ((Try.f14.body).getD .skip)) {s1 s3 s4 s5 s6 s7 s9 s10 s11 s12 s13 s14 s15 s16 s17 s18 s19 s20 s21 s22 s23 s24 s25 s26 s27 s28 s29 s30 s31 s32 s33 s34 s35 s36 s37 s38 s39 s40 s41 s42 s43 s44 s45 s46 s47 s48 s49 s50 s51 s52 s53 s54 s55 s56 s57 s58 s59 s60 s61 s62 s63 s64 s65 s66 s67 s68 s69 s70 s71 s72 : Value} :
    cc.wp Try.prog (bodyPost Try.prog Try.f14 (fun r w' => r = .returned (.tuple #[.agg (readR s).1.cells, .bool (readR s).2]) ∧ Below w.heap.size w w')) { tmps := List.toArray ((.string s)::s1::(.pointer (some ⟨w.heap.size, 0, none⟩))::s3::s4::s5::s6::s7::(.pointer (some ⟨eb, 0, none⟩))::s9::s10::s11::s12::s13::s14::s15::s16::s17::s18::s19::s20::s21::s22::s23::s24::s25::s26::s27::s28::s29::s30::s31::s32::s33::s34::s35::s36::s37::s38::s39::s40::s41::s42::s43::s44::s45::s46::s47::s48::s49::s50::s51::s52::s53::s54::s55::s56::s57::s58::s59::s60::s61::s62::s63::s64::s65::s66::s67::s68::s69::s70::s71::s72::[]), defers := [] } wr := by
  conv at hc => rhs; whnf
  subst hc
  rw [hR]
  obtain ⟨kd, ep, pe, sq, pay⟩ := e
  have hb0 := hbox
  have y0 := hbox.cell (j := 0) rfl
  have y1 := hbox.cell (j := 1) rfl
  have y2 := hbox.cell (j := 2) rfl
  have y3 := hbox.cell (j := 3) rfl
  have y4 := hbox.cell (j := 4) rfl
  dsimp only at y0 y1 y2 y3 y4 he
  have HRT := Lib.hid (rright_any ⟨kd, ep, pe, sq, pay⟩ (by dsimp only; omega) wr)
  unfold Ev.val at HRT
  dsimp only at HRT
  have HO0 := Lib.hid hO
  have HBX := Lib.hid hbox
  have HW := Lib.hid hw
  by_cases hr : rightE ⟨kd, ep, pe, sq, pay⟩ = true
  · rw [hr] at HRT
    have hbt := fun wi => rbytes_any ⟨kd, ep, pe, sq, pay⟩ hr wi
    unfold Ev.val at hbt
    dsimp only at hbt
    have HBT := Lib.hid hbt
    obtain ⟨bz, hbz⟩ : ∃ b, bs (bytesE ⟨kd, ep, pe, sq, pay⟩) = b := ⟨_, rfl⟩
    rw [hbz] at HBT ⊢
    by_cases heq : bz = s
    · subst heq
      rw [if_pos ⟨hr, rfl⟩]
      clear hO hbox hw hR hbt hbz hr hb0
      apply wp_seq_k
      intro K hK
      have HKT := Lib.hid hK
      clear hK
      go_wp2_with fail
      refine HRT.out.mono ?_
      rintro r w2 ⟨rfl, hb2⟩
      have hx2 := HBX.out.later hb2
      have y0 := hx2.cell (j := 0) rfl
      have y1 := hx2.cell (j := 1) rfl
      have y2 := hx2.cell (j := 2) rfl
      have y3 := hx2.cell (j := 3) rfl
      have y4 := hx2.cell (j := 4) rfl
      dsimp only at y0 y1 y2 y3 y4
      have HB2 := Lib.hid hb2
      clear hb2 hx2
      go_wp2_with fail
      refine (HBT.out w2).mono ?_
      rintro r w3 ⟨rfl, hb3⟩
      have hb23 := HB2.out.trans (hb3.mono HB2.out.size)
      have hx3 := HBX.out.later hb23
      have y0 := hx3.cell (j := 0) rfl
      have y1 := hx3.cell (j := 1) rfl
      have y2 := hx3.cell (j := 2) rfl
      have y3 := hx3.cell (j := 3) rfl
      have y4 := hx3.cell (j := 4) rfl
      dsimp only at y0 y1 y2 y3 y4
      have hout := HO0.out.later hb23
      have hw3 := HW.out.trans (hb23.mono HW.out.size)
      have c0 := hout.cell (j := 0) rfl
      have f0 := hout.frozen (j := 0) (by show 0 < 5; decide)
      have c1 := hout.cell (j := 1) rfl
      have f1 := hout.frozen (j := 1) (by show 1 < 5; decide)
      have c2 := hout.cell (j := 2) rfl
      have f2 := hout.frozen (j := 2) (by show 2 < 5; decide)
      have c3 := hout.cell (j := 3) rfl
      have f3 := hout.frozen (j := 3) (by show 3 < 5; decide)
      have c4 := hout.cell (j := 4) rfl
      have f4 := hout.frozen (j := 4) (by show 4 < 5; decide)
      have HPT : Hid (Cells (((((w3.setCell ⟨w.heap.size, 0, none⟩ (.int .i64 kd)).setCell ⟨w.heap.size, 1, none⟩ (.int .i64 ep)).setCell ⟨w.heap.size, 2, none⟩ (.int .i64 pe)).setCell ⟨w.heap.size, 3, none⟩ (.int .i64 sq)).setCell ⟨w.heap.size, 4, none⟩ (.string pay)) w.heap.size 25 [.int .i64 kd, .int .i64 ep, .int .i64 pe, .int .i64 sq, .string pay]) := Lib.hid (((((hout.set_ 0 (.int .i64 kd)).set_ 1 (.int .i64 ep)).set_ 2 (.int .i64 pe)).set_ 3 (.int .i64 sq)).set_ 4 (.string pay))
      have HFB : Hid (Below w.heap.size w (((((w3.setCell ⟨w.heap.size, 0, none⟩ (.int .i64 kd)).setCell ⟨w.heap.size, 1, none⟩ (.int .i64 ep)).setCell ⟨w.heap.size, 2, none⟩ (.int .i64 pe)).setCell ⟨w.heap.size, 3, none⟩ (.int .i64 sq)).setCell ⟨w.heap.size, 4, none⟩ (.string pay))) := Lib.hid (hw3.trans ((((((Only.of_set w3 ⟨w.heap.size, 0, none⟩ (.int .i64 kd)).trans (Only.of_set (w3.setCell ⟨w.heap.size, 0, none⟩ (.int .i64 kd)) ⟨w.heap.size, 1, none⟩ (.int .i64 ep)) fun _ _ e => e).trans (Only.of_set ((w3.setCell ⟨w.heap.size, 0, none⟩ (.int .i64 kd)).setCell ⟨w.heap.size, 1, none⟩ (.int .i64 ep)) ⟨w.heap.size, 2, none⟩ (.int .i64 pe)) fun _ _ e => e).trans (Only.of_set (((w3.setCell ⟨w.heap.size, 0, none⟩ (.int .i64 kd)).setCell ⟨w.heap.size, 1, none⟩ (.int .i64 ep)).setCell ⟨w.heap.size, 2, none⟩ (.int .i64 pe)) ⟨w.heap.size, 3, none⟩ (.int .i64 sq)) fun _ _ e => e).trans (Only.of_set ((((w3.setCell ⟨w.heap.size, 0, none⟩ (.int .i64 kd)).setCell ⟨w.heap.size, 1, none⟩ (.int .i64 ep)).setCell ⟨w.heap.size, 2, none⟩ (.int .i64 pe)).setCell ⟨w.heap.size, 3, none⟩ (.int .i64 sq)) ⟨w.heap.size, 4, none⟩ (.string pay)) fun _ _ e => e).below hw3.size fun k e2 => by rw [show k = w.heap.size from e2]; exact Nat.le_refl _))
      clear hb3 hb23 hx3 hout hw3
      go_wp2_with fail
      refine HKT.out _ _ ?_
      clear HKT
      go_wp2_with fail
      refine bodyPost_ret (v := .tuple #[.agg #[.int .i64 kd, .int .i64 ep, .int .i64 pe, .int .i64 sq, .string pay], .bool true]) ?_ rfl ?_
      · exact (ret_cell_tmp (p := 2) (q := 3) (ty := 25) (by rfl) _ HPT.out _ (by rfl) Try.underlying25 rfl (by kernel_rfl)).trans (by rfl)
      · exact ⟨rfl, HFB.out⟩
    · rw [if_neg (fun e => heq e.2)]
      have hne := str_ne heq
      clear hO hbox hw hR hbt hbz hr heq hb0
      apply wp_seq_k
      intro K hK
      have HKT := Lib.hid hK
      clear hK
      go_wp2_with fail
      refine HRT.out.mono ?_
      rintro r w2 ⟨rfl, hb2⟩
      have hx2 := HBX.out.later hb2
      have y0 := hx2.cell (j := 0) rfl
      have y1 := hx2.cell (j := 1) rfl
      have y2 := hx2.cell (j := 2) rfl
      have y3 := hx2.cell (j := 3) rfl
      have y4 := hx2.cell (j := 4) rfl
      dsimp only at y0 y1 y2 y3 y4
      have HB2 := Lib.hid hb2
      clear hb2 hx2
      go_wp2_with fail
      refine (HBT.out w2).mono ?_
      rintro r w3 ⟨rfl, hb3⟩
      have hb23 := HB2.out.trans (hb3.mono HB2.out.size)
      have hout := HO0.out.later hb23
      have hw3 := HW.out.trans (hb23.mono HW.out.size)
      have c0 := hout.cell (j := 0) rfl
      have f0 := hout.frozen (j := 0) (by show 0 < 5; decide)
      have c1 := hout.cell (j := 1) rfl
      have f1 := hout.frozen (j := 1) (by show 1 < 5; decide)
      have c2 := hout.cell (j := 2) rfl
      have f2 := hout.frozen (j := 2) (by show 2 < 5; decide)
      have c3 := hout.cell (j := 3) rfl
      have f3 := hout.frozen (j := 3) (by show 3 < 5; decide)
      have c4 := hout.cell (j := 4) rfl
      have f4 := hout.frozen (j := 4) (by show 4 < 5; decide)
      have HPT : Hid (Cells (((((w3.setCell ⟨w.heap.size, 0, none⟩ (.int .i64 0)).setCell ⟨w.heap.size, 1, none⟩ (.int .i64 0)).setCell ⟨w.heap.size, 2, none⟩ (.int .i64 0)).setCell ⟨w.heap.size, 3, none⟩ (.int .i64 0)).setCell ⟨w.heap.size, 4, none⟩ (.string ⟨#[]⟩)) w.heap.size 25 [.int .i64 0, .int .i64 0, .int .i64 0, .int .i64 0, .string ⟨#[]⟩]) := Lib.hid (((((hout.set_ 0 (.int .i64 0)).set_ 1 (.int .i64 0)).set_ 2 (.int .i64 0)).set_ 3 (.int .i64 0)).set_ 4 (.string ⟨#[]⟩))
      have HFB : Hid (Below w.heap.size w (((((w3.setCell ⟨w.heap.size, 0, none⟩ (.int .i64 0)).setCell ⟨w.heap.size, 1, none⟩ (.int .i64 0)).setCell ⟨w.heap.size, 2, none⟩ (.int .i64 0)).setCell ⟨w.heap.size, 3, none⟩ (.int .i64 0)).setCell ⟨w.heap.size, 4, none⟩ (.string ⟨#[]⟩))) := Lib.hid (hw3.trans ((((((Only.of_set w3 ⟨w.heap.size, 0, none⟩ (.int .i64 0)).trans (Only.of_set (w3.setCell ⟨w.heap.size, 0, none⟩ (.int .i64 0)) ⟨w.heap.size, 1, none⟩ (.int .i64 0)) fun _ _ e => e).trans (Only.of_set ((w3.setCell ⟨w.heap.size, 0, none⟩ (.int .i64 0)).setCell ⟨w.heap.size, 1, none⟩ (.int .i64 0)) ⟨w.heap.size, 2, none⟩ (.int .i64 0)) fun _ _ e => e).trans (Only.of_set (((w3.setCell ⟨w.heap.size, 0, none⟩ (.int .i64 0)).setCell ⟨w.heap.size, 1, none⟩ (.int .i64 0)).setCell ⟨w.heap.size, 2, none⟩ (.int .i64 0)) ⟨w.heap.size, 3, none⟩ (.int .i64 0)) fun _ _ e => e).trans (Only.of_set ((((w3.setCell ⟨w.heap.size, 0, none⟩ (.int .i64 0)).setCell ⟨w.heap.size, 1, none⟩ (.int .i64 0)).setCell ⟨w.heap.size, 2, none⟩ (.int .i64 0)).setCell ⟨w.heap.size, 3, none⟩ (.int .i64 0)) ⟨w.heap.size, 4, none⟩ (.string ⟨#[]⟩)) fun _ _ e => e).below hw3.size fun k e2 => by rw [show k = w.heap.size from e2]; exact Nat.le_refl _))
      clear hb3 hb23 hout hw3
      go_wp2_with fail
      refine bodyPost_ret (v := .tuple #[.agg #[.int .i64 0, .int .i64 0, .int .i64 0, .int .i64 0, .string ⟨#[]⟩], .bool false]) ?_ rfl ?_
      · exact (ret_cell_tmp (p := 2) (q := 3) (ty := 25) (by rfl) _ HPT.out _ (by rfl) Try.underlying25 rfl (by kernel_rfl)).trans (by rfl)
      · exact ⟨rfl, HFB.out⟩
  · have hr2 : rightE ⟨kd, ep, pe, sq, pay⟩ = false := by simpa using hr
    rw [hr2] at HRT
    rw [if_neg (fun e => hr e.1)]
    clear hO hbox hw hR hr hr2 hb0
    apply wp_seq_k
    intro K hK
    have HKT := Lib.hid hK
    clear hK
    go_wp2_with fail
    refine HRT.out.mono ?_
    rintro r w2 ⟨rfl, hb2⟩
    have hout := HO0.out.later hb2
    have hw2 := HW.out.trans (hb2.mono HW.out.size)
    have c0 := hout.cell (j := 0) rfl
    have f0 := hout.frozen (j := 0) (by show 0 < 5; decide)
    have c1 := hout.cell (j := 1) rfl
    have f1 := hout.frozen (j := 1) (by show 1 < 5; decide)
    have c2 := hout.cell (j := 2) rfl
    have f2 := hout.frozen (j := 2) (by show 2 < 5; decide)
    have c3 := hout.cell (j := 3) rfl
    have f3 := hout.frozen (j := 3) (by show 3 < 5; decide)
    have c4 := hout.cell (j := 4) rfl
    have f4 := hout.frozen (j := 4) (by show 4 < 5; decide)
    have HPT : Hid (Cells (((((w2.setCell ⟨w.heap.size, 0, none⟩ (.int .i64 0)).setCell ⟨w.heap.size, 1, none⟩ (.int .i64 0)).setCell ⟨w.heap.size, 2, none⟩ (.int .i64 0)).setCell ⟨w.heap.size, 3, none⟩ (.int .i64 0)).setCell ⟨w.heap.size, 4, none⟩ (.string ⟨#[]⟩)) w.heap.size 25 [.int .i64 0, .int .i64 0, .int .i64 0, .int .i64 0, .string ⟨#[]⟩]) := Lib.hid (((((hout.set_ 0 (.int .i64 0)).set_ 1 (.int .i64 0)).set_ 2 (.int .i64 0)).set_ 3 (.int .i64 0)).set_ 4 (.string ⟨#[]⟩))
    have HFB : Hid (Below w.heap.size w (((((w2.setCell ⟨w.heap.size, 0, none⟩ (.int .i64 0)).setCell ⟨w.heap.size, 1, none⟩ (.int .i64 0)).setCell ⟨w.heap.size, 2, none⟩ (.int .i64 0)).setCell ⟨w.heap.size, 3, none⟩ (.int .i64 0)).setCell ⟨w.heap.size, 4, none⟩ (.string ⟨#[]⟩))) := Lib.hid (hw2.trans ((((((Only.of_set w2 ⟨w.heap.size, 0, none⟩ (.int .i64 0)).trans (Only.of_set (w2.setCell ⟨w.heap.size, 0, none⟩ (.int .i64 0)) ⟨w.heap.size, 1, none⟩ (.int .i64 0)) fun _ _ e => e).trans (Only.of_set ((w2.setCell ⟨w.heap.size, 0, none⟩ (.int .i64 0)).setCell ⟨w.heap.size, 1, none⟩ (.int .i64 0)) ⟨w.heap.size, 2, none⟩ (.int .i64 0)) fun _ _ e => e).trans (Only.of_set (((w2.setCell ⟨w.heap.size, 0, none⟩ (.int .i64 0)).setCell ⟨w.heap.size, 1, none⟩ (.int .i64 0)).setCell ⟨w.heap.size, 2, none⟩ (.int .i64 0)) ⟨w.heap.size, 3, none⟩ (.int .i64 0)) fun _ _ e => e).trans (Only.of_set ((((w2.setCell ⟨w.heap.size, 0, none⟩ (.int .i64 0)).setCell ⟨w.heap.size, 1, none⟩ (.int .i64 0)).setCell ⟨w.heap.size, 2, none⟩ (.int .i64 0)).setCell ⟨w.heap.size, 3, none⟩ (.int .i64 0)) ⟨w.heap.size, 4, none⟩ (.string ⟨#[]⟩)) fun _ _ e => e).below hw2.size fun k e2 => by rw [show k = w.heap.size from e2]; exact Nat.le_refl _))
    clear hb2 hout hw2
    go_wp2_with fail
    refine bodyPost_ret (v := .tuple #[.agg #[.int .i64 0, .int .i64 0, .int .i64 0, .int .i64 0, .string ⟨#[]⟩], .bool false]) ?_ rfl ?_
    · exact (ret_cell_tmp (p := 2) (q := 3) (ty := 25) (by rfl) _ HPT.out _ (by rfl) Try.underlying25 rfl (by kernel_rfl)).trans (by rfl)
    · exact ⟨rfl, HFB.out⟩
set_option maxHeartbeats 1000000 in
theorem readMid {w wr : World} {s : ByteArray} {lb : Nat} {n0 n1 n2 : Int} (hs : s.size ≤ 1000000) (h25 : ¬ s.size < 25) (hn : IntKind.i64.wrap (head (s.extract 1 s.size) 8 : Nat) = n0 ∧ IntKind.i64.wrap (head (s.extract 9 s.size) 8 : Nat) = n1 ∧ IntKind.i64.wrap (head (s.extract 17 s.size) 8 : Nat) = n2)
    (HL : Cells wr lb 3 [.int .i64 n0, .int .i64 n1, .int .i64 n2]) (HO : Cells wr w.heap.size 25 zeroE.vals) (HB : Below w.heap.size w wr)
    {cc : Code} (hc : cc = sub [1, 1, 1, 1] ((Try.f14.body).getD .skip)) {s1 s3 s5 s6 s7 s8 s9 s10 s11 s12 s13 s14 s15 s16 s17 s18 s19 s20 s21 s22 s23 s24 s25 s26 s27 s28 s29 s30 s31 s32 s33 s34 s35 s36 s37 s38 s39 s40 s41 s42 s43 s44 s45 s46 s47 s48 s49 s50 s51 s52 s53 s54 s55 s56 s57 s58 s59 s60 s61 s62 s63 s64 s65 s66 s67 s68 s69 s70 s71 s72 : Value} :
    cc.wp Try.prog (bodyPost Try.prog Try.f14 (fun r w' => r = .returned (.tuple #[.agg (readR s).1.cells, .bool (readR s).2]) ∧ Below w.heap.size w w')) { tmps := List.toArray ((.string s)::s1::(.pointer (some ⟨w.heap.size, 0, none⟩))::s3::(.slice (some ⟨lb, 0, none⟩) 3 3)::s5::s6::s7::s8::s9::s10::s11::s12::s13::s14::s15::s16::s17::s18::s19::s20::s21::s22::s23::s24::s25::s26::s27::s28::s29::s30::s31::s32::s33::s34::s35::s36::s37::s38::s39::s40::s41::s42::s43::s44::s45::s46::s47::s48::s49::s50::s51::s52::s53::s54::s55::s56::s57::s58::s59::s60::s61::s62::s63::s64::s65::s66::s67::s68::s69::s70::s71::s72::[]), defers := [] } wr := by
  conv at hc => rhs; whnf
  subst hc
  have HLL := Lib.hid HL
  have HOO := Lib.hid HO
  have HBB := Lib.hid HB
  have HNS := Lib.hid hn
  have hz0 : 0 < s.size := by omega
  obtain ⟨q, hq⟩ : ∃ q : Nat, (s[0]'hz0).toNat = q := ⟨_, rfl⟩
  have hq256 : q < 256 := by rw [← hq]; exact (s[0]'hz0).toNat_lt
  have hnum : num s 1 = q := by
    unfold Wire.num Wire.tk
    rw [if_neg (by omega)]
    have e : (s.extract 0 1).data.toList = [s[0]'hz0] := by
      rw [Wire.ext_list, List.drop_zero]
      have h1 := Wire.take_snoc s 0 hz0
      simpa using h1
    rw [e]
    unfold Wire.valN
    simp [hq]
  have HQ1 : Hid (((s[0]'hz0).toNat : Int) = (q : Int)) := Lib.hid (by rw [hq])
  have HQ2 := Lib.hid hz0
  have HQ3 : Hid (IntKind.i64.wrap (q : Int) = (q : Int)) := Lib.hid (by rw [IntKind.wrap_i64]; omega)
  have hbwr : w.heap.size < wr.heap.size := HO.lt
  have HNUM := Lib.hid hnum
  have HR25 := Lib.hid h25
  clear HL HO HB hq hnum hn h25
  apply wp_seq_k
  intro K hK
  have HKT := Lib.hid hK
  clear hK
  refine Reg.region_inv (by kernel_rfl) (fun i => ([some (.string s), some (.int .u8 (q : Int)), some (.int .i64 (q : Int)), some (.slice (some ⟨lb, 0, none⟩) 3 3), some (.pointer (some ⟨lb, 0, none⟩)), some (.int .i64 n0), some (.slice (some ⟨lb, 0, none⟩) 3 3), some (.pointer (some ⟨lb, 1, none⟩)), some (.int .i64 n1), some (.slice (some ⟨lb, 0, none⟩) 3 3), some (.pointer (some ⟨lb, 2, none⟩)), some (.int .i64 n2), some (.agg #[.int .i64 (q : Int), .int .i64 n0, .int .i64 n1, .int .i64 n2, .string ⟨#[]⟩]), none, none] : List (Option Value)).getD i none) (fun D V W => (D 14 = false → Below wr.heap.size wr W ∧ (D 13 = true → ∃ kz, V 13 = Value.pointer (some ⟨kz, 0, none⟩) ∧ wr.heap.size ≤ kz ∧ Cells W kz 25 [.int .i64 0, .int .i64 0, .int .i64 0, .int .i64 0, .string ⟨#[]⟩])) ∧ (D 14 = true → ∃ kz, V 13 = Value.pointer (some ⟨kz, 0, none⟩) ∧ wr.heap.size ≤ kz ∧ Cells W kz 25 [.int .i64 (q : Int), .int .i64 n0, .int .i64 n1, .int .i64 n2, .string ⟨#[]⟩] ∧ Below wr.heap.size wr W)) (fun V => [(some 34, V 0), (some 35, V 1), (some 36, V 2), (some 37, V 3), (some 38, V 4), (some 39, V 5), (some 40, V 6), (some 41, V 7), (some 42, V 8), (some 43, V 9), (some 44, V 10), (some 45, V 11), (some 46, V 12), (some 8, V 13), (none, V 14)]) (by kernel_rfl) (by kernel_rfl) (fun V => rfl) ?_ ?_ ?_
  · intro V
    exact ⟨fun _ => ⟨(Below.refl _ _).drew, fun e => (by cases e)⟩, fun e => (by cases e)⟩
  · intro i o ho
    have hi : i < 15 := (Array.getElem?_eq_some_iff.1 ho).1
    rcases i with _ | _ | _ | _ | _ | _ | _ | _ | _ | _ | _ | _ | _ | _ | _ | i
    rotate_right
    · omega
    all_goals obtain rfl := Option.some.inj ho
    all_goals intro D V ρ wi hE hI hDi hT hF hs hd hk
    · have e0 : ρ (.tmp 0) = .string s := hs 0; clear hT hF hk
      exact Reg.Gives.value (v := .string s) (w' := wi) (by go_simp) ⟨fun x h => Option.some.inj h, hI⟩
    · have e34 : ρ (.tmp 34) = .string s := (hd 0 34).trans (hk 0 _ rfl); have hc := hE.const; clear hT hF hk; have hq := HQ1.out; have hz := HQ2.out
      have hz2 : (0 : Int) < (s.size : Int) := by omega
      exact Reg.Gives.value (v := .int .u8 (q : Int)) (w' := wi) (by go_simp) ⟨fun x h => Option.some.inj h, hI⟩
    · have e35 : ρ (.tmp 35) = .int .u8 (q : Int) := (hd 1 35).trans (hk 1 _ rfl); clear hT hF hk; have hq := HQ3.out
      exact Reg.Gives.value (v := .int .i64 (q : Int)) (w' := wi) (by go_simp) ⟨fun x h => Option.some.inj h, hI⟩
    · have e4 : ρ (.tmp 4) = .slice (some ⟨lb, 0, none⟩) 3 3 := hs 4; clear hT hF hk
      exact Reg.Gives.value (v := .slice (some ⟨lb, 0, none⟩) 3 3) (w' := wi) (by go_simp) ⟨fun x h => Option.some.inj h, hI⟩
    · have e37 : ρ (.tmp 37) = .slice (some ⟨lb, 0, none⟩) 3 3 := (hd 3 37).trans (hk 3 _ rfl); have hc := hE.const; clear hT hF hk
      exact Reg.Gives.value (v := .pointer (some ⟨lb, 0, none⟩)) (w' := wi) (by go_simp) ⟨fun x h => Option.some.inj h, hI⟩
    · have e38 : ρ (.tmp 38) = .pointer (some ⟨lb, 0, none⟩) := (hd 4 38).trans (hk 4 _ rfl); have hD14 : D 14 = false := hF 1 14; clear hT hF; have hL : Below wr.heap.size wr wi := (hI.1 hD14).1; have x0 := (HLL.out.later hL).cell (j := 0) rfl
      exact Reg.Gives.value (v := .int .i64 n0) (w' := wi) (by go_simp) ⟨fun x h => Option.some.inj h, hI⟩
    · have e4 : ρ (.tmp 4) = .slice (some ⟨lb, 0, none⟩) 3 3 := hs 4; clear hT hF hk
      exact Reg.Gives.value (v := .slice (some ⟨lb, 0, none⟩) 3 3) (w' := wi) (by go_simp) ⟨fun x h => Option.some.inj h, hI⟩
    · have e40 : ρ (.tmp 40) = .slice (some ⟨lb, 0, none⟩) 3 3 := (hd 6 40).trans (hk 6 _ rfl); have hc := hE.const; clear hT hF hk
      exact Reg.Gives.value (v := .pointer (some ⟨lb, 1, none⟩)) (w' := wi) (by go_simp) ⟨fun x h => Option.some.inj h, hI⟩
    · have e41 : ρ (.tmp 41) = .pointer (some ⟨lb, 1, none⟩) := (hd 7 41).trans (hk 7 _ rfl); have hD14 : D 14 = false := hF 1 14; clear hT hF; have hL : Below wr.heap.size wr wi := (hI.1 hD14).1; have x0 := (HLL.out.later hL).cell (j := 1) rfl
      exact Reg.Gives.value (v := .int .i64 n1) (w' := wi) (by go_simp) ⟨fun x h => Option.some.inj h, hI⟩
    · have e4 : ρ (.tmp 4) = .slice (some ⟨lb, 0, none⟩) 3 3 := hs 4; clear hT hF hk
      exact Reg.Gives.value (v := .slice (some ⟨lb, 0, none⟩) 3 3) (w' := wi) (by go_simp) ⟨fun x h => Option.some.inj h, hI⟩
    · have e43 : ρ (.tmp 43) = .slice (some ⟨lb, 0, none⟩) 3 3 := (hd 9 43).trans (hk 9 _ rfl); have hc := hE.const; clear hT hF hk
      exact Reg.Gives.value (v := .pointer (some ⟨lb, 2, none⟩)) (w' := wi) (by go_simp) ⟨fun x h => Option.some.inj h, hI⟩
    · have e44 : ρ (.tmp 44) = .pointer (some ⟨lb, 2, none⟩) := (hd 10 44).trans (hk 10 _ rfl); have hD14 : D 14 = false := hF 1 14; clear hT hF; have hL : Below wr.heap.size wr wi := (hI.1 hD14).1; have x0 := (HLL.out.later hL).cell (j := 2) rfl
      exact Reg.Gives.value (v := .int .i64 n2) (w' := wi) (by go_simp) ⟨fun x h => Option.some.inj h, hI⟩
    · have e36 : ρ (.tmp 36) = .int .i64 (q : Int) := (hd 2 36).trans (hk 2 _ rfl); have e39 : ρ (.tmp 39) = .int .i64 n0 := (hd 5 39).trans (hk 5 _ rfl); have e42 : ρ (.tmp 42) = .int .i64 n1 := (hd 8 42).trans (hk 8 _ rfl); have e45 : ρ (.tmp 45) = .int .i64 n2 := (hd 11 45).trans (hk 11 _ rfl); clear hT hF hk
      exact Reg.Gives.value (v := .agg #[.int .i64 (q : Int), .int .i64 n0, .int .i64 n1, .int .i64 n2, .string ⟨#[]⟩]) (w' := wi) (by go_simp) ⟨fun x h => Option.some.inj h, hI⟩
    · have hD14 : D 14 = false := hF 1 14; clear hT hF; have h1 := hI.1 hD14; have hal := below_alloc wi (.cells #[.int .i64 0, .int .i64 0, .int .i64 0, .int .i64 0, .string ⟨#[]⟩] 25)
      exact Reg.Gives.value (v := .pointer (some ⟨wi.heap.size, 0, none⟩)) (w' := wi.alloc (.cells #[.int .i64 0, .int .i64 0, .int .i64 0, .int .i64 0, .string ⟨#[]⟩] 25)) (by go_simp) ⟨fun x h => (by cases h), by show ((D 14) = false → Below wr.heap.size wr (wi.alloc (.cells #[.int .i64 0, .int .i64 0, .int .i64 0, .int .i64 0, .string ⟨#[]⟩] 25)) ∧ (true = true → ∃ kz, (Value.pointer (some ⟨wi.heap.size, 0, none⟩)) = Value.pointer (some ⟨kz, 0, none⟩) ∧ wr.heap.size ≤ kz ∧ Cells (wi.alloc (.cells #[.int .i64 0, .int .i64 0, .int .i64 0, .int .i64 0, .string ⟨#[]⟩] 25)) kz 25 [.int .i64 0, .int .i64 0, .int .i64 0, .int .i64 0, .string ⟨#[]⟩])) ∧ ((D 14) = true → ∃ kz, (Value.pointer (some ⟨wi.heap.size, 0, none⟩)) = Value.pointer (some ⟨kz, 0, none⟩) ∧ wr.heap.size ≤ kz ∧ Cells (wi.alloc (.cells #[.int .i64 0, .int .i64 0, .int .i64 0, .int .i64 0, .string ⟨#[]⟩] 25)) kz 25 [.int .i64 (q : Int), .int .i64 n0, .int .i64 n1, .int .i64 n2, .string ⟨#[]⟩] ∧ Below wr.heap.size wr (wi.alloc (.cells #[.int .i64 0, .int .i64 0, .int .i64 0, .int .i64 0, .string ⟨#[]⟩] 25))); exact ⟨fun _ => ⟨h1.1.trans (hal.mono h1.1.size), fun _ => ⟨_, rfl, h1.1.size, cells_new _ _ _ _ rfl⟩⟩, fun e => (by rw [hD14] at e; cases e)⟩⟩
    · have e8 : ρ (.tmp 8) = V 13 := hd 13 8; have e46 : ρ (.tmp 46) = .agg #[.int .i64 (q : Int), .int .i64 n0, .int .i64 n1, .int .i64 n2, .string ⟨#[]⟩] := (hd 12 46).trans (hk 12 _ rfl); have hD13 : D 13 = true := hT 1 13; have hD14 : D 14 = false := hDi; clear hT hF; have h1 := hI.1 hD14; obtain ⟨kk, a1, a2, a3⟩ := h1.2 hD13
      rw [a1] at e8
      obtain ⟨k1, k2⟩ := a3.put (l := [.int .i64 (q : Int), .int .i64 n0, .int .i64 n1, .int .i64 n2, .string ⟨#[]⟩]) rfl; have k3 := a3.there (n := 5) (Nat.le_refl 5)
      have hst := run_storeVar_mid (P := Try.prog) wi kk 0 25 #[.int .i64 (q : Int), .int .i64 n0, .int .i64 n1, .int .i64 n2, .string ⟨#[]⟩] k3 (by kernel_rfl) (by simp [Value.oneCell'])
      obtain ⟨Wz, hWz⟩ : ∃ W, W = wi.setCells kk 0 [.int .i64 (q : Int), .int .i64 n0, .int .i64 n1, .int .i64 n2, .string ⟨#[]⟩] := ⟨_, rfl⟩
      rw [show (#[.int .i64 (q : Int), .int .i64 n0, .int .i64 n1, .int .i64 n2, .string ⟨#[]⟩] : Array Value).toList = [.int .i64 (q : Int), .int .i64 n0, .int .i64 n1, .int .i64 n2, .string ⟨#[]⟩] from rfl, ← hWz] at hst
      rw [← hWz] at k1 k2
      have hB9 : Below wr.heap.size wr Wz := h1.1.trans (k2.below h1.1.size fun k e => by rw [e]; exact a2)
      clear hWz
      exact Reg.Gives.skip (w' := Wz) (exec_store 25 _ _ rfl kk 0 #[.int .i64 (q : Int), .int .i64 n0, .int .i64 n1, .int .i64 n2, .string ⟨#[]⟩] (by assumption) (by assumption) hst) ⟨fun x h => (by cases h), by show (true = false → Below wr.heap.size wr Wz ∧ ((D 13) = true → ∃ kz, (V 13) = Value.pointer (some ⟨kz, 0, none⟩) ∧ wr.heap.size ≤ kz ∧ Cells Wz kz 25 [.int .i64 0, .int .i64 0, .int .i64 0, .int .i64 0, .string ⟨#[]⟩])) ∧ (true = true → ∃ kz, (V 13) = Value.pointer (some ⟨kz, 0, none⟩) ∧ wr.heap.size ≤ kz ∧ Cells Wz kz 25 [.int .i64 (q : Int), .int .i64 n0, .int .i64 n1, .int .i64 n2, .string ⟨#[]⟩] ∧ Below wr.heap.size wr Wz); exact ⟨fun e => (by cases e), fun _ => ⟨kk, a1, a2, k1, hB9⟩⟩⟩
  · intro V wf hk hI
    simp only [Reg.putsO, List.foldl_cons, List.foldl_nil, Act.put, List.setIfInBounds_toArray, List.set_cons_succ, List.set_cons_zero]
    replace hI : ((fun _ => true) 14 = false → Below wr.heap.size wr wf ∧ ((fun _ => true) 13 = true → ∃ kz, V 13 = Value.pointer (some ⟨kz, 0, none⟩) ∧ wr.heap.size ≤ kz ∧ Cells wf kz 25 [.int .i64 0, .int .i64 0, .int .i64 0, .int .i64 0, .string ⟨#[]⟩])) ∧ ((fun _ => true) 14 = true → ∃ kz, V 13 = Value.pointer (some ⟨kz, 0, none⟩) ∧ wr.heap.size ≤ kz ∧ Cells wf kz 25 [.int .i64 (q : Int), .int .i64 n0, .int .i64 n1, .int .i64 n2, .string ⟨#[]⟩] ∧ Below wr.heap.size wr wf) := hI
    clear hk
    obtain ⟨eb, hv13, heb, hce, hbe⟩ := hI.2 rfl
    rw [hv13]
    have HCE := Lib.hid hce
    have HBE : Hid (Below w.heap.size w wf) := Lib.hid (HBB.out.trans (hbe.mono HBB.out.size))
    have HOE := Lib.hid (HOO.out.later hbe)
    have HLE : Hid (w.heap.size < eb) := Lib.hid (by omega)
    have z0 := hce.cell (j := 0) rfl
    clear hI hv13 hce hbe heb hbwr
    refine HKT.out _ _ ?_
    clear HKT
    have hEr : readE s = ⟨q, n0, n1, n2, if q = 1 then (s.extract 25 s.size).extract 2 (2 + head (s.extract 25 s.size) 2) else ⟨#[]⟩⟩ := by
      unfold readE
      rw [HNUM.out, HNS.out.1, HNS.out.2.1, HNS.out.2.2]
    by_cases hq1 : q = 1
    · subst hq1
      have hu : (s.extract 25 s.size).size = s.size - 25 := by rw [ByteArray.size_extract]; omega
      have hgt := fun wi => Wire.get_any 4 (s.extract 25 s.size) wi (by decide) (by rw [hu]; omega)
      have b1 : 25 ≤ s.size := by have := HR25.out; omega
      have b2 : (25 : Int) ≤ (s.size : Int) := by omega
      apply wp_seq_k
      intro K hK
      have HKT := Lib.hid hK
      clear hK
      cases htx : textOk s with
      | false =>
        have hR : readR s = (zeroE, false) := by
          unfold readR readM
          rw [if_neg HR25.out, if_pos ⟨HNUM.out, htx⟩]
        have HRR := Lib.hid hR
        rw [getV4_no _ (by unfold textOk at htx; exact htx)] at hgt
        have HGT := Lib.hid hgt
        clear hgt hR htx hEr hu
        go_wp2_with fail
        refine (HGT.out _).mono ?_
        rintro r w3 ⟨rfl, hb3⟩
        have hout : Cells (w3.alloc (.cells #[.int .i64 0, .int .i64 0, .string ⟨#[]⟩] 106)) w.heap.size 25 zeroE.vals := (HOE.out.later hb3).later (below_alloc _ _)
        obtain ⟨w4, hw4⟩ : ∃ W, W = w3.alloc (.cells #[.int .i64 0, .int .i64 0, .string ⟨#[]⟩] 106) := ⟨_, rfl⟩
        rw [← hw4] at hout
        have hb4 : Below w3.heap.size w3 w4 := by rw [hw4]; exact below_alloc _ _
        have hw9 : Below w.heap.size w w4 := (HBE.out.trans (hb3.mono HBE.out.size)).trans (hb4.mono (Nat.le_trans HBE.out.size hb3.size))
        have c0 := hout.cell (j := 0) rfl
        have f0 := hout.frozen (j := 0) (by show 0 < 5; decide)
        have c1 := hout.cell (j := 1) rfl
        have f1 := hout.frozen (j := 1) (by show 1 < 5; decide)
        have c2 := hout.cell (j := 2) rfl
        have f2 := hout.frozen (j := 2) (by show 2 < 5; decide)
        have c3 := hout.cell (j := 3) rfl
        have f3 := hout.frozen (j := 3) (by show 3 < 5; decide)
        have c4 := hout.cell (j := 4) rfl
        have f4 := hout.frozen (j := 4) (by show 4 < 5; decide)
        have HPT : Hid (Cells (((((w4.setCell ⟨w.heap.size, 0, none⟩ (.int .i64 0)).setCell ⟨w.heap.size, 1, none⟩ (.int .i64 0)).setCell ⟨w.heap.size, 2, none⟩ (.int .i64 0)).setCell ⟨w.heap.size, 3, none⟩ (.int .i64 0)).setCell ⟨w.heap.size, 4, none⟩ (.string ⟨#[]⟩)) w.heap.size 25 [.int .i64 0, .int .i64 0, .int .i64 0, .int .i64 0, .string ⟨#[]⟩]) := Lib.hid (((((hout.set_ 0 (.int .i64 0)).set_ 1 (.int .i64 0)).set_ 2 (.int .i64 0)).set_ 3 (.int .i64 0)).set_ 4 (.string ⟨#[]⟩))
        have HFB : Hid (Below w.heap.size w (((((w4.setCell ⟨w.heap.size, 0, none⟩ (.int .i64 0)).setCell ⟨w.heap.size, 1, none⟩ (.int .i64 0)).setCell ⟨w.heap.size, 2, none⟩ (.int .i64 0)).setCell ⟨w.heap.size, 3, none⟩ (.int .i64 0)).setCell ⟨w.heap.size, 4, none⟩ (.string ⟨#[]⟩))) := Lib.hid (hw9.trans ((((((Only.of_set w4 ⟨w.heap.size, 0, none⟩ (.int .i64 0)).trans (Only.of_set (w4.setCell ⟨w.heap.size, 0, none⟩ (.int .i64 0)) ⟨w.heap.size, 1, none⟩ (.int .i64 0)) fun _ _ e => e).trans (Only.of_set ((w4.setCell ⟨w.heap.size, 0, none⟩ (.int .i64 0)).setCell ⟨w.heap.size, 1, none⟩ (.int .i64 0)) ⟨w.heap.size, 2, none⟩ (.int .i64 0)) fun _ _ e => e).trans (Only.of_set (((w4.setCell ⟨w.heap.size, 0, none⟩ (.int .i64 0)).setCell ⟨w.heap.size, 1, none⟩ (.int .i64 0)).setCell ⟨w.heap.size, 2, none⟩ (.int .i64 0)) ⟨w.heap.size, 3, none⟩ (.int .i64 0)) fun _ _ e => e).trans (Only.of_set ((((w4.setCell ⟨w.heap.size, 0, none⟩ (.int .i64 0)).setCell ⟨w.heap.size, 1, none⟩ (.int .i64 0)).setCell ⟨w.heap.size, 2, none⟩ (.int .i64 0)).setCell ⟨w.heap.size, 3, none⟩ (.int .i64 0)) ⟨w.heap.size, 4, none⟩ (.string ⟨#[]⟩)) fun _ _ e => e).below hw9.size fun k e2 => by rw [show k = w.heap.size from e2]; exact Nat.le_refl _))
        clear hb3 hb4 hw9 hout z0
        go_upto_region 12 with (fail)
        rw [← hw4]
        clear hw4
        go_wp2_with fail
        rw [HRR.out]
        refine bodyPost_ret (v := .tuple #[.agg #[.int .i64 0, .int .i64 0, .int .i64 0, .int .i64 0, .string ⟨#[]⟩], .bool false]) ?_ rfl ?_
        · exact (ret_cell_tmp (p := 2) (q := 3) (ty := 25) (by rfl) _ HPT.out _ (by rfl) Try.underlying25 rfl (by kernel_rfl)).trans (by rfl)
        · exact ⟨rfl, HFB.out⟩
      | true =>
        rw [if_pos rfl] at hEr
        obtain ⟨pay, hpay⟩ : ∃ p, (s.extract 25 s.size).extract 2 (2 + head (s.extract 25 s.size) 2) = p := ⟨_, rfl⟩
        rw [hpay] at hEr
        have hR : readR s = if rightE ⟨1, n0, n1, n2, pay⟩ = true ∧ bs (bytesE ⟨1, n0, n1, n2, pay⟩) = s then (⟨1, n0, n1, n2, pay⟩, true) else (zeroE, false) := by
          unfold readR readM
          rw [if_neg HR25.out, if_neg (fun e => by rw [htx] at e; cases e.2), hEr]
          split <;> rename_i h <;> split <;> rename_i h2 <;> simp_all
        have HRR := Lib.hid hR
        have hpz : pay.size ≤ 1000000 := by
          rw [← hpay, ByteArray.size_extract]
          omega
        rw [getV4 _ (by unfold textOk at htx; exact htx), hpay] at hgt
        obtain ⟨nn, hnn⟩ : ∃ nn, 2 + head (s.extract 25 s.size) 2 = nn := ⟨_, rfl⟩
        rw [hnn] at hgt
        have e1 : ((nn : Int) == 0) = false := by simp; omega
        have HGT := Lib.hid hgt
        clear hgt hR htx hEr hu hpay hnn
        go_wp2_with fail
        refine (HGT.out _).mono ?_
        rintro r w3 ⟨rfl, hb3⟩
        obtain ⟨w4, hw4⟩ : ∃ W, W = w3.alloc (.cells #[.int .i64 4, .int .i64 0, .string pay] 106) := ⟨_, rfl⟩
        have hb4 : Below w3.heap.size w3 w4 := by rw [hw4]; exact below_alloc _ _
        have hc4 : Cells w4 w3.heap.size 106 [.int .i64 4, .int .i64 0, .string pay] := by rw [hw4]; exact cells_new _ _ _ _ rfl
        have x2 := hc4.cell (j := 2) rfl
        have hb34 := hb3.trans (hb4.mono hb3.size)
        have hce4 := HCE.out.later hb34
        have d4 := hce4.cell (j := 4) rfl
        have q4 := hce4.frozen (j := 4) (by simp)
        have hset := Only.of_set w4 ⟨eb, 4, none⟩ (.string pay)
        have hce5 := hce4.set_ 4 (.string pay)
        have hw5 : Below w.heap.size w (w4.setCell ⟨eb, 4, none⟩ (.string pay)) := (HBE.out.trans (hb34.mono HBE.out.size)).trans (hset.below (Nat.le_trans HBE.out.size hb34.size) fun k e => by have h9 : k = eb := e; have := HLE.out; omega)
        have ho5 := cells_only (HOE.out.later hb34) hset (fun e => by have h9 : w.heap.size = eb := e; have := HLE.out; omega)
        have HX := Lib.hid (And.intro hce5 (And.intro hw5 ho5))
        clear hb3 hb4 hc4 hb34 hce4 hset hce5 hw5 ho5 z0
        go_upto_region 12 with (fail)
        rw [← hw4]
        clear hw4
        go_wp2_with fail
        exact HKT.out _ _ (readEnd (e := ⟨1, n0, n1, n2, pay⟩) hs hpz HRR.out HX.out.2.2 HX.out.1 HX.out.2.1 HLE.out (by kernel_rfl))
    · have e1 : ((q : Int) == 1) = false := by simp; omega
      rw [if_neg hq1] at hEr
      have hR : readR s = if rightE ⟨q, n0, n1, n2, ⟨#[]⟩⟩ = true ∧ bs (bytesE ⟨q, n0, n1, n2, ⟨#[]⟩⟩) = s then (⟨q, n0, n1, n2, ⟨#[]⟩⟩, true) else (zeroE, false) := by
        unfold readR readM
        rw [if_neg HR25.out, if_neg (fun e => hq1 (HNUM.out.symm.trans e.1)), hEr]
        split <;> rename_i h <;> split <;> rename_i h2 <;> simp_all
      have HRR := Lib.hid hR
      clear hR hEr hq1
      apply wp_seq_k
      intro K hK
      have HKT := Lib.hid hK
      clear hK
      go_wp2_with fail
      exact HKT.out _ _ (readEnd hs (by show 0 ≤ 1000000; omega) HRR.out HOE.out HCE.out HBE.out HLE.out (by kernel_rfl))

set_option maxHeartbeats 1000000 in
theorem RRead_any (s : ByteArray) (hs : s.size ≤ 1000000) (w : World) :
    Calls Try.prog 14 #[.string s] w fun r w' => r = .returned (.tuple #[.agg (readR s).1.cells, .bool (readR s).2]) ∧ Below w.heap.size w w' := by
  obtain ⟨wa, hwa⟩ : ∃ W, W = w.alloc (.cells #[.int .i64 0, .int .i64 0, .int .i64 0, .int .i64 0, .string ⟨#[]⟩] 25) := ⟨_, rfl⟩
  have hba : Below w.heap.size w wa := by rw [hwa]; exact below_alloc _ _
  have hca : Cells wa w.heap.size 25 zeroE.vals := by rw [hwa]; exact cells_new _ _ _ _ rfl
  have hsa : wa.heap.size = w.heap.size + 1 := by rw [hwa]; exact World.size_alloc _ _
  by_cases h25 : s.size < 25
  · have e1 : decide ((s.size : Int) < 25) = true := decide_eq_true (by omega)
    have hR : readR s = (zeroE, false) := by unfold readR readM; rw [if_pos h25]
    rw [hR]
    have hout : Cells wa w.heap.size 25 [.int .i64 0, .int .i64 0, .int .i64 0, .int .i64 0, .string ⟨#[]⟩] := hca
    have c0 := hout.cell (j := 0) rfl
    have f0 := hout.frozen (j := 0) (by show 0 < 5; decide)
    have c1 := hout.cell (j := 1) rfl
    have f1 := hout.frozen (j := 1) (by show 1 < 5; decide)
    have c2 := hout.cell (j := 2) rfl
    have f2 := hout.frozen (j := 2) (by show 2 < 5; decide)
    have c3 := hout.cell (j := 3) rfl
    have f3 := hout.frozen (j := 3) (by show 3 < 5; decide)
    have c4 := hout.cell (j := 4) rfl
    have f4 := hout.frozen (j := 4) (by show 4 < 5; decide)
    have HPT : Hid (Cells (((((wa.setCell ⟨w.heap.size, 0, none⟩ (.int .i64 0)).setCell ⟨w.heap.size, 1, none⟩ (.int .i64 0)).setCell ⟨w.heap.size, 2, none⟩ (.int .i64 0)).setCell ⟨w.heap.size, 3, none⟩ (.int .i64 0)).setCell ⟨w.heap.size, 4, none⟩ (.string ⟨#[]⟩)) w.heap.size 25 [.int .i64 0, .int .i64 0, .int .i64 0, .int .i64 0, .string ⟨#[]⟩]) := Lib.hid (((((hout.set_ 0 (.int .i64 0)).set_ 1 (.int .i64 0)).set_ 2 (.int .i64 0)).set_ 3 (.int .i64 0)).set_ 4 (.string ⟨#[]⟩))
    have HFB : Hid (Below w.heap.size w (((((wa.setCell ⟨w.heap.size, 0, none⟩ (.int .i64 0)).setCell ⟨w.heap.size, 1, none⟩ (.int .i64 0)).setCell ⟨w.heap.size, 2, none⟩ (.int .i64 0)).setCell ⟨w.heap.size, 3, none⟩ (.int .i64 0)).setCell ⟨w.heap.size, 4, none⟩ (.string ⟨#[]⟩))) := Lib.hid (hba.trans ((((((Only.of_set wa ⟨w.heap.size, 0, none⟩ (.int .i64 0)).trans (Only.of_set (wa.setCell ⟨w.heap.size, 0, none⟩ (.int .i64 0)) ⟨w.heap.size, 1, none⟩ (.int .i64 0)) fun _ _ e => e).trans (Only.of_set ((wa.setCell ⟨w.heap.size, 0, none⟩ (.int .i64 0)).setCell ⟨w.heap.size, 1, none⟩ (.int .i64 0)) ⟨w.heap.size, 2, none⟩ (.int .i64 0)) fun _ _ e => e).trans (Only.of_set (((wa.setCell ⟨w.heap.size, 0, none⟩ (.int .i64 0)).setCell ⟨w.heap.size, 1, none⟩ (.int .i64 0)).setCell ⟨w.heap.size, 2, none⟩ (.int .i64 0)) ⟨w.heap.size, 3, none⟩ (.int .i64 0)) fun _ _ e => e).trans (Only.of_set ((((wa.setCell ⟨w.heap.size, 0, none⟩ (.int .i64 0)).setCell ⟨w.heap.size, 1, none⟩ (.int .i64 0)).setCell ⟨w.heap.size, 2, none⟩ (.int .i64 0)).setCell ⟨w.heap.size, 3, none⟩ (.int .i64 0)) ⟨w.heap.size, 4, none⟩ (.string ⟨#[]⟩)) fun _ _ e => e).below hba.size fun k e2 => by rw [show k = w.heap.size from e2]; exact Nat.le_refl _))
    clear hba hca hsa hR h25 hout
    go_enter Try.func14, Try.ntmps14
    go_upto_region 1 with (fail)
    rw [← hwa]
    clear hwa
    go_wp2_with fail
    refine bodyPost_ret (v := .tuple #[.agg #[.int .i64 0, .int .i64 0, .int .i64 0, .int .i64 0, .string ⟨#[]⟩], .bool false]) ?_ rfl ?_
    · exact (ret_cell_tmp (p := 2) (q := 3) (ty := 25) (by rfl) _ HPT.out _ (by rfl) Try.underlying25 rfl (by kernel_rfl)).trans (by rfl)
    · exact ⟨rfl, HFB.out⟩
  have e1 : decide ((s.size : Int) < 25) = false := decide_eq_false (by omega)
  obtain ⟨n0, hn0⟩ : ∃ n, IntKind.i64.wrap (head (s.extract 1 s.size) 8 : Nat) = n := ⟨_, rfl⟩
  obtain ⟨n1, hn1⟩ : ∃ n, IntKind.i64.wrap (head (s.extract 9 s.size) 8 : Nat) = n := ⟨_, rfl⟩
  obtain ⟨n2, hn2⟩ : ∃ n, IntKind.i64.wrap (head (s.extract 17 s.size) 8 : Nat) = n := ⟨_, rfl⟩
  have HG0 : Hid (∀ wi, Calls Try.prog 45 #[.int .i64 3, .string (s.extract 1 s.size)] wi fun e w' => e = .returned (.tuple #[.agg #[.int .i64 3, .int .i64 n0, .string ⟨#[]⟩], .int .i64 8]) ∧ Below wi.heap.size wi w') := Lib.hid fun wi => by
    have hz : (s.extract 1 s.size).size = s.size - 1 := by rw [ByteArray.size_extract]; omega
    have h1 := Wire.get_any 3 (s.extract 1 s.size) wi (by decide) (by rw [hz]; omega)
    rw [getV3 _ (by rw [hz]; omega), hn0] at h1
    exact h1
  have HG1 : Hid (∀ wi, Calls Try.prog 45 #[.int .i64 3, .string (s.extract 9 s.size)] wi fun e w' => e = .returned (.tuple #[.agg #[.int .i64 3, .int .i64 n1, .string ⟨#[]⟩], .int .i64 8]) ∧ Below wi.heap.size wi w') := Lib.hid fun wi => by
    have hz : (s.extract 9 s.size).size = s.size - 9 := by rw [ByteArray.size_extract]; omega
    have h1 := Wire.get_any 3 (s.extract 9 s.size) wi (by decide) (by rw [hz]; omega)
    rw [getV3 _ (by rw [hz]; omega), hn1] at h1
    exact h1
  have HG2 : Hid (∀ wi, Calls Try.prog 45 #[.int .i64 3, .string (s.extract 17 s.size)] wi fun e w' => e = .returned (.tuple #[.agg #[.int .i64 3, .int .i64 n2, .string ⟨#[]⟩], .int .i64 8]) ∧ Below wi.heap.size wi w') := Lib.hid fun wi => by
    have hz : (s.extract 17 s.size).size = s.size - 17 := by rw [ByteArray.size_extract]; omega
    have h1 := Wire.get_any 3 (s.extract 17 s.size) wi (by decide) (by rw [hz]; omega)
    rw [getV3 _ (by rw [hz]; omega), hn2] at h1
    exact h1
  have HNS := Lib.hid (And.intro hn0 (And.intro hn1 hn2))
  obtain ⟨wb, hwb⟩ : ∃ W, W = wa.alloc (.cells #[.int .i64 0, .int .i64 0, .int .i64 0] 3) := ⟨_, rfl⟩
  have hbb : Below wa.heap.size wa wb := by rw [hwb]; exact below_alloc _ _
  have hcb : Cells wb wa.heap.size 3 [.int .i64 0, .int .i64 0, .int .i64 0] := by rw [hwb]; exact cells_new _ _ _ _ rfl
  obtain ⟨lb, hlb⟩ : ∃ lb, wa.heap.size = lb := ⟨_, rfl⟩
  have HLB : Hid (w.heap.size < lb) := Lib.hid (by omega)
  have HLE := Lib.hid hlb
  obtain ⟨St, hSt⟩ : ∃ St : Nat → World → Prop, St = fun k W => (k = 0 → Cells W lb 3 [.int .i64 0, .int .i64 0, .int .i64 0] ∧ Cells W w.heap.size 25 zeroE.vals ∧ Below w.heap.size w W) ∧ (k = 1 → Cells W lb 3 [.int .i64 n0, .int .i64 0, .int .i64 0] ∧ Cells W w.heap.size 25 zeroE.vals ∧ Below w.heap.size w W) ∧ (k = 2 → Cells W lb 3 [.int .i64 n0, .int .i64 n1, .int .i64 0] ∧ Cells W w.heap.size 25 zeroE.vals ∧ Below w.heap.size w W) ∧ (k = 3 → Cells W lb 3 [.int .i64 n0, .int .i64 n1, .int .i64 n2] ∧ Cells W w.heap.size 25 zeroE.vals ∧ Below w.heap.size w W) := ⟨_, rfl⟩
  have HST := Lib.hid hSt
  rw [hlb] at hcb
  have HS0 : Hid (St 0 wb) := Lib.hid (by
    rw [hSt]
    exact ⟨fun _ => ⟨hcb, hca.later hbb, hba.trans (hbb.mono hba.size)⟩, fun e => (by cases e), fun e => (by cases e), fun e => (by cases e)⟩)
  have HR25 := Lib.hid h25
  clear hba hca hsa hbb hcb hlb hSt h25 hn0 hn1 hn2
  go_enter Try.func14, Try.ntmps14
  apply wp_seq_k
  intro K hK
  have HKT := Lib.hid hK
  clear hK
  go_wp2_with fail
  refine HKT.out _ _ ?_
  clear HKT
  rw [← hwa]
  clear hwa
  apply wp_seq_k
  intro K hK
  have HKT := Lib.hid hK
  clear hK
  go_wp2_with fail
  refine HKT.out _ _ ?_
  clear HKT
  apply wp_seq_k
  intro K hK
  have HKT := Lib.hid hK
  clear hK
  go_wp2_with fail
  refine HKT.out _ _ ?_
  clear HKT
  rw [← hwb]
  clear hwb
  rw [HLE.out]
  apply wp_seq_k
  intro K hK
  have HKT := Lib.hid hK
  clear hK
  go_wp2_with fail
  go_loopw [5, 6, 7] (fun i _ _ wr => ∃ (k : Nat), k ≤ 3 ∧ i = .int .i64 (k : Int) ∧ Hid (St k wr)) (fun i _ _ _ => 3 - (intOf i).toNat)
  case atStart => exact ⟨0, by omega, rfl, HS0⟩
  case round =>
    clear HS0
    obtain ⟨k, hk3, rfl, HS⟩ := hrel
    rw [HST.out] at HS
    obtain rfl | rfl | rfl | rfl : k = 0 ∨ k = 1 ∨ k = 2 ∨ k = 3 := by omega
    · obtain ⟨HL, HO, HB⟩ := HS.out.1 rfl
      have h0 := HL.cell (j := 0) rfl
      have h1 := HL.cell (j := 1) rfl
      have h2 := HL.cell (j := 2) rfl
      have HGT := Lib.hid (HG0.out wr)
      have b1 : 1 ≤ s.size := by have := HR25.out; omega
      have b2 : ((1 : Nat) : Int) ≤ (s.size : Int) := by omega
      have HL0 := Lib.hid HL
      have HO0 := Lib.hid HO
      have HB0 := Lib.hid HB
      clear HL HO HB HS
      go_upto_region 7 with (fail)
      go_wp2_with fail
      refine HGT.out.mono ?_
      rintro r w1 ⟨rfl, hb1⟩
      obtain ⟨w2, hw2⟩ : ∃ W, W = w1.alloc (.cells #[.int .i64 3, .int .i64 n0, .string ⟨#[]⟩] 106) := ⟨_, rfl⟩
      have hb2 : Below w1.heap.size w1 w2 := by rw [hw2]; exact below_alloc _ _
      have hc2 : Cells w2 w1.heap.size 106 [.int .i64 3, .int .i64 n0, .string ⟨#[]⟩] := by rw [hw2]; exact cells_new _ _ _ _ rfl
      have z1 := hc2.cell (j := 1) rfl
      have hl2 := (HL0.out.later hb1).later hb2
      have d0 := hl2.cell (j := 0) rfl
      have f0 := hl2.frozen (j := 0) (by simp)
      have hl3 := hl2.set_ 0 (.int .i64 n0)
      have hset := Only.of_set w2 ⟨lb, 0, none⟩ (.int .i64 n0)
      have hob : w.heap.size ≠ lb := by have := HLB.out; omega
      have ho3 := cells_only ((HO0.out.later hb1).later hb2) hset (fun e => hob e)
      have hbw : Below w.heap.size w (w2.setCell ⟨lb, 0, none⟩ (.int .i64 n0)) := (((HB0.out.trans (hb1.mono HB0.out.size)).trans (hb2.mono (Nat.le_trans HB0.out.size hb1.size))).trans (hset.below (Nat.le_trans HB0.out.size (Nat.le_trans hb1.size hb2.size)) fun i e => by have h9 : i = lb := e; have := HLB.out; omega))
      have HN : Hid (St (0 + 1) (w2.setCell ⟨lb, 0, none⟩ (.int .i64 n0))) := Lib.hid (by rw [HST.out]; exact ⟨fun e => (by cases e), fun _ => ⟨hl3, ho3, hbw⟩, fun e => (by cases e), fun e => (by cases e)⟩)
      clear hb1 hb2 hc2 hl2 hl3 hset ho3 hbw hob HGT h0 h1 h2
      go_upto_region 8 with (fail)
      rw [← hw2]
      clear hw2
      go_wp2_with fail
      go_roundw
      case rel => exact ⟨0 + 1, by omega, by go_num, HN⟩
      case measure => simp [intOf]
    · obtain ⟨HL, HO, HB⟩ := HS.out.2.1 rfl
      have h0 := HL.cell (j := 0) rfl
      have h1 := HL.cell (j := 1) rfl
      have h2 := HL.cell (j := 2) rfl
      have HGT := Lib.hid (HG1.out wr)
      have b1 : 9 ≤ s.size := by have := HR25.out; omega
      have b2 : ((9 : Nat) : Int) ≤ (s.size : Int) := by omega
      have HL0 := Lib.hid HL
      have HO0 := Lib.hid HO
      have HB0 := Lib.hid HB
      clear HL HO HB HS
      go_upto_region 7 with (fail)
      go_wp2_with fail
      refine HGT.out.mono ?_
      rintro r w1 ⟨rfl, hb1⟩
      obtain ⟨w2, hw2⟩ : ∃ W, W = w1.alloc (.cells #[.int .i64 3, .int .i64 n1, .string ⟨#[]⟩] 106) := ⟨_, rfl⟩
      have hb2 : Below w1.heap.size w1 w2 := by rw [hw2]; exact below_alloc _ _
      have hc2 : Cells w2 w1.heap.size 106 [.int .i64 3, .int .i64 n1, .string ⟨#[]⟩] := by rw [hw2]; exact cells_new _ _ _ _ rfl
      have z1 := hc2.cell (j := 1) rfl
      have hl2 := (HL0.out.later hb1).later hb2
      have d1 := hl2.cell (j := 1) rfl
      have f1 := hl2.frozen (j := 1) (by simp)
      have hl3 := hl2.set_ 1 (.int .i64 n1)
      have hset := Only.of_set w2 ⟨lb, 1, none⟩ (.int .i64 n1)
      have hob : w.heap.size ≠ lb := by have := HLB.out; omega
      have ho3 := cells_only ((HO0.out.later hb1).later hb2) hset (fun e => hob e)
      have hbw : Below w.heap.size w (w2.setCell ⟨lb, 1, none⟩ (.int .i64 n1)) := (((HB0.out.trans (hb1.mono HB0.out.size)).trans (hb2.mono (Nat.le_trans HB0.out.size hb1.size))).trans (hset.below (Nat.le_trans HB0.out.size (Nat.le_trans hb1.size hb2.size)) fun i e => by have h9 : i = lb := e; have := HLB.out; omega))
      have HN : Hid (St (1 + 1) (w2.setCell ⟨lb, 1, none⟩ (.int .i64 n1))) := Lib.hid (by rw [HST.out]; exact ⟨fun e => (by cases e), fun e => (by cases e), fun _ => ⟨hl3, ho3, hbw⟩, fun e => (by cases e)⟩)
      clear hb1 hb2 hc2 hl2 hl3 hset ho3 hbw hob HGT h0 h1 h2
      go_upto_region 8 with (fail)
      rw [← hw2]
      clear hw2
      go_wp2_with fail
      go_roundw
      case rel => exact ⟨1 + 1, by omega, by go_num, HN⟩
      case measure => simp [intOf]
    · obtain ⟨HL, HO, HB⟩ := HS.out.2.2.1 rfl
      have h0 := HL.cell (j := 0) rfl
      have h1 := HL.cell (j := 1) rfl
      have h2 := HL.cell (j := 2) rfl
      have HGT := Lib.hid (HG2.out wr)
      have b1 : 17 ≤ s.size := by have := HR25.out; omega
      have b2 : ((17 : Nat) : Int) ≤ (s.size : Int) := by omega
      have HL0 := Lib.hid HL
      have HO0 := Lib.hid HO
      have HB0 := Lib.hid HB
      clear HL HO HB HS
      go_upto_region 7 with (fail)
      go_wp2_with fail
      refine HGT.out.mono ?_
      rintro r w1 ⟨rfl, hb1⟩
      obtain ⟨w2, hw2⟩ : ∃ W, W = w1.alloc (.cells #[.int .i64 3, .int .i64 n2, .string ⟨#[]⟩] 106) := ⟨_, rfl⟩
      have hb2 : Below w1.heap.size w1 w2 := by rw [hw2]; exact below_alloc _ _
      have hc2 : Cells w2 w1.heap.size 106 [.int .i64 3, .int .i64 n2, .string ⟨#[]⟩] := by rw [hw2]; exact cells_new _ _ _ _ rfl
      have z1 := hc2.cell (j := 1) rfl
      have hl2 := (HL0.out.later hb1).later hb2
      have d2 := hl2.cell (j := 2) rfl
      have f2 := hl2.frozen (j := 2) (by simp)
      have hl3 := hl2.set_ 2 (.int .i64 n2)
      have hset := Only.of_set w2 ⟨lb, 2, none⟩ (.int .i64 n2)
      have hob : w.heap.size ≠ lb := by have := HLB.out; omega
      have ho3 := cells_only ((HO0.out.later hb1).later hb2) hset (fun e => hob e)
      have hbw : Below w.heap.size w (w2.setCell ⟨lb, 2, none⟩ (.int .i64 n2)) := (((HB0.out.trans (hb1.mono HB0.out.size)).trans (hb2.mono (Nat.le_trans HB0.out.size hb1.size))).trans (hset.below (Nat.le_trans HB0.out.size (Nat.le_trans hb1.size hb2.size)) fun i e => by have h9 : i = lb := e; have := HLB.out; omega))
      have HN : Hid (St (2 + 1) (w2.setCell ⟨lb, 2, none⟩ (.int .i64 n2))) := Lib.hid (by rw [HST.out]; exact ⟨fun e => (by cases e), fun e => (by cases e), fun e => (by cases e), fun _ => ⟨hl3, ho3, hbw⟩⟩)
      clear hb1 hb2 hc2 hl2 hl3 hset ho3 hbw hob HGT h0 h1 h2
      go_upto_region 8 with (fail)
      rw [← hw2]
      clear hw2
      go_wp2_with fail
      go_roundw
      case rel => exact ⟨2 + 1, by omega, by go_num, HN⟩
      case measure => simp [intOf]
    · obtain ⟨HL, HO, HB⟩ := HS.out.2.2.2 rfl
      have HLL := Lib.hid HL
      have HOO := Lib.hid HO
      have HBB := Lib.hid HB
      clear HL HO HB HS
      go_wp2_with fail
      exact HKT.out _ _ (readMid hs HR25.out HNS.out HLL.out HOO.out HBB.out (by kernel_rfl))
end Go.Proofs.Ytifcpglifcjdjaa.Ses
