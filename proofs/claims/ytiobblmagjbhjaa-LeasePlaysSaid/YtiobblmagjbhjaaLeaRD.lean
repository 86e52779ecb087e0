/-
  Layer 18, the document's table: Drop. Conditions: none.
-/
import Derived.Test.YtiobblmagjbhjaaLeaRH
import Derived.Test.YtiobblmagjbhjaaLeaRow
namespace Go.Proofs.Ytiobblmagjbhjaa.Lea
set_option maxRecDepth 100000
open Go.RowKit Go.Deep Go.Proofs.Ytiobblmagjbhjaa.Mem

/-- What goes and what is left, in two rows apart. -/
structure Rd (B : Nat) (w : World) (V : Option Addr) (vn vc : Nat) (O : Option Addr) (on oc : Nat) (out : List Int) (l : List Dh) : Prop where
  os : OwnI B w (.slice V vn vc) out
  ls : OwnG 53 5 Dh.vals B w (.slice O on oc) l
  far : ∀ k, blk V = some k → blk O ≠ some k
section
variable {B : Nat} {w w1 : World} {V O : Option Addr} {vn vc on oc : Nat} {out : List Int} {l : List Dh}
theorem Rd.later (h : Rd B w V vn vc O on oc out l) (hb : Below w.heap.size w w1) : Rd B w1 V vn vc O on oc out l := ⟨h.os.later hb, h.ls.later hb, h.far⟩
theorem Rd.outs (h : Rd B w V vn vc O on oc out l) (c : Int) (hB : B ≤ w.heap.size) (hl : out.length ≤ 2000) :
    ∃ V' vn' vc' w2, (Builtin.append_ #[35, 35] 35 #[.slice V vn vc, .slice (some ⟨w.heap.size, 0, none⟩) 1 1]).run Try.prog (w.alloc (.cells #[.int .i64 c] 3)) = .ok (.slice V' vn' vc') w2 ∧ Rd B w2 V' vn' vc' O on oc (out ++ [c]) l ∧ Below B w w2 := by
  obtain ⟨V', vn', vc', w2, r1, h1, o1, g1⟩ := OwnG.iapp h.os c hB hl
  refine ⟨V', vn', vc', w2, r1, ⟨h1, h.ls.only o1 fun k e e2 => h.far k e2.symm (by rw [own_blk] at e; exact e), fun k e e2 => ?_⟩, o1.below hB fun k e => (h.os.lt (k := k) (by rw [own_blk]; exact e.symm)).1⟩
  rcases g1 k e with e3 | e3
  · exact h.far k e3.symm e2
  · have := (h.ls.lt (k := k) (by rw [own_blk]; exact e2)).2
    omega
theorem Rd.left (h : Rd B w V vn vc O on oc out l) (d : Dh) (hB : B ≤ w.heap.size) (hl : l.length ≤ 2000) :
    ∃ O' on' oc' w2, (Builtin.append_ #[30, 30] 30 #[.slice O on oc, .slice (some ⟨w.heap.size, 0, none⟩) 1 1]).run Try.prog (w.alloc (.cells #[.int .i64 d.cell, .int .i64 d.tid.node, .int .i64 d.tid.epoch, .int .i64 d.tid.seq, .int .i64 d.til] 53)) = .ok (.slice O' on' oc') w2 ∧ Rd B w2 V vn vc O' on' oc' out (l ++ [d]) ∧ Below B w w2 := by
  obtain ⟨V', vn', vc', w2, r1, h1, o1, g1⟩ := own_app1 el_rd fit_dh h.ls d #[.int .i64 d.cell, .int .i64 d.tid.node, .int .i64 d.tid.epoch, .int .i64 d.tid.seq, .int .i64 d.til] rfl hB hl
  refine ⟨V', vn', vc', w2, r1, ⟨h.os.only o1 fun k e e2 => h.far k (by rw [own_blk] at e; exact e) e2.symm, h1, fun k e e2 => ?_⟩, o1.below hB fun k e => (h.ls.lt (k := k) (by rw [own_blk]; exact e.symm)).1⟩
  rcases g1 k e2 with e3 | e3
  · exact h.far k e e3.symm
  · have := (h.os.lt (k := k) (by rw [own_blk]; exact e)).2
    omega
end
/-- Does a hold go? -/
def goQ (bt : Bool) (who : Lt) (now : Int) (d : Dh) : Bool := if bt then decide (d.til ≤ now) else decide (d.tid = who)
def goP (bt : Bool) (who : Lt) (now : Int) : Sv → Bool := if bt then byTime now else byWho who
theorem goQ_P (bt : Bool) (who : Lt) (now : Int) (i : Nat) (s : Sv) : goQ bt who now ⟨(i : Int), s.tid, s.til⟩ = goP bt who now s := by
  unfold goQ goP
  cases bt <;> rfl
section
variable {B rb ac : Nat} {w : World} {T : List Sv} {A : Option Addr}
set_option maxHeartbeats 4000000 in
theorem RDrop_any (h : LrAt B w rb (docR T) A ac) (bt : Bool) (who : Lt) (now : Int) (hB : B ≤ w.heap.size) :
    Calls Try.prog 14 #[.pointer (some ⟨rb, 0, none⟩), .bool bt, .agg #[.int .i64 who.node, .int .i64 who.epoch, .int .i64 who.seq], .int .i64 now] w fun e w' => ∃ V n c, e = .returned (.slice V n c) ∧ OwnI w.heap.size w' (.slice V n c) (goneT (goP bt who now) 0 T) ∧ LrStep B rb A w (docR (dropT (goP bt who now) T)) w' := by
  obtain ⟨wa, hwa⟩ : ∃ W, W = w.alloc (.cells #[.int .i64 who.node, .int .i64 who.epoch, .int .i64 who.seq] 34) := ⟨_, rfl⟩
  have hba : Below w.heap.size w wa := by rw [hwa]; exact below_alloc _ _
  have hca : Cells wa w.heap.size 34 (lt3 who) := by rw [hwa]; exact cells_new _ _ _ _ rfl
  have HRA := Lib.hid (h.later hba)
  have HB := Lib.hid hba
  have HBW0 : Hid (B ≤ wa.heap.size) := Lib.hid (Nat.le_trans hB hba.size)
  obtain ⟨xb, hxb⟩ : ∃ x, w.heap.size = x := ⟨_, rfl⟩
  have HXB : Hid (∀ wi, Below wa.heap.size wa wi → Cells wi xb 34 (lt3 who)) := Lib.hid fun wi hb => by rw [← hxb]; exact hca.later hb
  obtain ⟨n, hn⟩ : ∃ n, (docR T).l.length = n := ⟨_, rfl⟩
  have HN := Lib.hid hn
  have hn16 : n ≤ 16 := by rw [← hn]; exact h.len
  obtain ⟨w1, hw1⟩ : ∃ W, W = wa.alloc (.cells #[] 3) := ⟨_, rfl⟩
  have hb1 : Below wa.heap.size wa w1 := by rw [hw1]; exact below_alloc _ _
  have h01 : OwnI wa.heap.size w1 (.slice (some ⟨wa.heap.size, 0, none⟩) 0 0) [] := by rw [hw1]; exact World.ownsRow_made (base := wa.heap.size) wa #[] 0 (Nat.le_refl _) (Nat.zero_le _) rfl
  obtain ⟨w2, hw2⟩ : ∃ W, W = w1.alloc (.cells #[] 53) := ⟨_, rfl⟩
  have hb2 : Below w1.heap.size w1 w2 := by rw [hw2]; exact below_alloc _ _
  have h02 : OwnG 53 5 Dh.vals w1.heap.size w2 (.slice (some ⟨w1.heap.size, 0, none⟩) 0 0) [] := by rw [hw2]; exact World.ownsRow_made (base := w1.heap.size) w1 #[] 0 (Nat.le_refl _) (Nat.zero_le _) rfl
  have HRD : Hid (Rd wa.heap.size w2 (some ⟨wa.heap.size, 0, none⟩) 0 0 (some ⟨w1.heap.size, 0, none⟩) 0 0 [] []) := Lib.hid ⟨h01.later hb2, OwnG.up hb1.size h02, fun k e e2 => by
    have e3 : wa.heap.size = k := Option.some.inj e
    have e4 : w1.heap.size = k := Option.some.inj e2
    have := (h01.lt (k := wa.heap.size) rfl).2
    omega⟩
  have HB2 : Hid (Below wa.heap.size wa w2) := Lib.hid (hb1.trans (hb2.mono hb1.size))
  have HEND := Lib.hid (doc_drop (goP bt who now) (goQ bt who now) (goQ_P bt who now) T 0)
  obtain ⟨q, hq⟩ : ∃ q, goQ bt who now = q := ⟨_, rfl⟩
  have HQ := Lib.hid hq
  rw [hq] at HEND
  have HDL : Hid ((docF 0 (dropT (goP bt who now) T)).length ≤ 16) := Lib.hid (by
    rw [HEND.out.1]
    exact Nat.le_trans (List.length_filter_le ..) (by show (docR T).l.length ≤ 16; rw [hn]; exact hn16))
  obtain ⟨L, hL⟩ : ∃ L, docF 0 T = L := ⟨_, rfl⟩
  have HL := Lib.hid hL
  have HLL : Hid (L.length = n) := Lib.hid (by rw [← hL]; exact hn)
  rw [hL] at HEND
  clear h hba hca hB hn hb1 h01 hb2 h02 hq hL
  go_enter Try.func14, Try.ntmps14
  go_upto_region 1 with (fail)
  rw [← hwa]
  clear hwa
  try rw [hxb]
  clear hxb
  go_upto_region 2 with (fail)
  rw [← hw1]
  clear hw1
  go_upto_region 3 with (fail)
  rw [← hw2]
  clear hw2
  go_wp2_with fail
  go_loopw [9, 10, 11] (fun a b i wr => ∃ (k : Nat) (V O : Option Addr) (vn vc on oc : Nat), k ≤ n ∧ i = .int .i64 (k : Int) ∧ a = .slice V vn vc ∧ b = .slice O on oc ∧ Hid (Rd wa.heap.size wr V vn vc O on oc (((L.take k).filter q).map (·.cell)) ((L.take k).filter fun d => !q d)) ∧ Hid (Below wa.heap.size wa wr)) (fun _ _ i _ => n - (intOf i).toNat)
  case atStart => exact ⟨0, _, _, 0, 0, 0, 0, Nat.zero_le _, rfl, rfl, rfl, HRD, HB2⟩
  case round =>
    clear HRD HB2
    obtain ⟨k, V, O, vn, vc, on, oc, hk, rfl, rfl, rfl, HR, HBR⟩ := hrel
    have c1 := (HRA.out.later HBR.out).cel.cell (j := 1) rfl
    rw [HN.out] at c1
    by_cases hkn : k < n
    · have hkL : k < L.length := by rw [HLL.out]; exact hkn
      have hkR : k < (docR T).l.length := by rw [HN.out]; exact hkn
      obtain ⟨g, rfl, hrg0, hzz⟩ := HRA.out.at hkR
      have hdd : (docR T).l[k] = L[k] := by
        have e3 : (docR T).l[k]? = L[k]? := by show (docF 0 T)[k]? = _; rw [HL.out]
        rw [List.getElem?_eq_getElem hkR, List.getElem?_eq_getElem hkL] at e3
        exact Option.some.inj e3
      rw [hdd] at hrg0
      have htk : L.take (k + 1) = L.take k ++ [L[k]] := List.take_succ_eq_append_getElem hkL
      obtain ⟨d, hd⟩ : ∃ d, L[k] = d := ⟨_, rfl⟩
      rw [hd] at hrg0 htk
      have HTK := Lib.hid htk
      have HRG : Hid (∀ wi, Below wa.heap.size wa wi → wi.rangeAt g (k * 5) d.vals) := Lib.hid fun wi hb => range_later hrg0 hb
      have hrg := HRG.out wr HBR.out
      have x0 := hrg 0 _ rfl
      rw [Nat.add_zero] at x0
      have x1 := hrg 1 _ rfl
      have x2 := hrg 2 _ rfl
      have x3 := hrg 3 _ rfl
      have x4 := hrg 4 _ rfl
      have hx := HXB.out wr HBR.out
      have q0 := hx.cell (j := 0) rfl
      have q1 := hx.cell (j := 1) rfl
      have q2 := hx.cell (j := 2) rfl
      have hlq := lt_eql d.tid who
      have hki : (k : Int) < (n : Int) := by omega
      have hk0 : (0 : Int) ≤ (k : Int) := by omega
      have HLO : Hid ((((L.take k).filter q).map (·.cell)).length ≤ 16 ∧ ((L.take k).filter fun d => !q d).length ≤ 16) := Lib.hid ⟨by rw [List.length_map]; exact Nat.le_trans (List.length_filter_le ..) (by rw [List.length_take]; omega), Nat.le_trans (List.length_filter_le ..) (by rw [List.length_take]; omega)⟩
      obtain ⟨qd, hqd⟩ : ∃ b, q d = b := ⟨_, rfl⟩
      have HQD : Hid (goQ bt who now d = qd) := Lib.hid (by rw [HQ.out]; exact hqd)
      have HYES : Hid (qd = true → ((L.take (k + 1)).filter q).map (·.cell) = ((L.take k).filter q).map (·.cell) ++ [d.cell] ∧ ((L.take (k + 1)).filter fun d => !q d) = (L.take k).filter fun d => !q d) := Lib.hid fun e => by
        rw [HTK.out, List.filter_append, List.filter_append, List.map_append, List.filter_cons, List.filter_cons, hqd, e]
        simp
      have HNO : Hid (qd = false → ((L.take (k + 1)).filter q).map (·.cell) = ((L.take k).filter q).map (·.cell) ∧ ((L.take (k + 1)).filter fun d => !q d) = ((L.take k).filter fun d => !q d) ++ [d]) := Lib.hid fun e => by
        rw [HTK.out, List.filter_append, List.filter_append, List.map_append, List.filter_cons, List.filter_cons, hqd, e]
        simp
      clear hkL hkR hrg0 hzz hdd htk hd hrg hx hqd
      go_upto_region 6 with (fail)
      go_cut [51] from 23 to 50 (fun x wx => x = .bool qd ∧ Hid (Below wr.heap.size wr wx))
      case first =>
        cases bt with
        | true =>
          obtain ⟨b, hb⟩ : ∃ b, decide (d.til ≤ now) = b := ⟨_, rfl⟩
          have HE : Hid (b = qd) := Lib.hid (by rw [← HQD.out, ← hb]; rfl)
          cases b
          all_goals
          · have HE2 := HE
            go_wp2_with fail
            go_quiet (fail)
            go_wp2_with fail
            go_meet
            case rel => exact ⟨congrArg Value.bool HE2.out, Lib.hid (below_dr _ _)⟩
        | false =>
          obtain ⟨b, hb⟩ : ∃ b, decide (d.tid = who) = b := ⟨_, rfl⟩
          rw [hb] at hlq
          have HE : Hid (b = qd) := Lib.hid (by rw [← HQD.out, ← hb]; rfl)
          clear hb
          cases b
          all_goals
          · have HE2 := HE
            go_wp2_with fail
            go_quiet (fail)
            go_wp2_with fail
            go_meet
            case rel => exact ⟨congrArg Value.bool HE2.out, Lib.hid (below_dr _ _)⟩
      case rest =>
        obtain ⟨rfl, HBC⟩ := hcut
        have HBW := Lib.hid (HBR.out.trans (HBC.out.mono HBR.out.size))
        have HRC := Lib.hid (HR.out.later HBC.out)
        clear x0 x1 x2 x3 x4 q0 q1 q2 c1 hlq HR
        have c1 := (HRA.out.later HBW.out).cel.cell (j := 1) rfl
        rw [HN.out] at c1
        have hrg := HRG.out wc HBW.out
        have x0 := hrg 0 _ rfl
        rw [Nat.add_zero] at x0
        have x1 := hrg 1 _ rfl
        have x2 := hrg 2 _ rfl
        have x3 := hrg 3 _ rfl
        have x4 := hrg 4 _ rfl
        clear hrg
        cases qd with
        | true =>
          obtain ⟨V2, vn2, vc2, w3, hrun, hr3, hb3⟩ := HRC.out.outs d.cell HBW.out.size (by have := HLO.out.1; omega)
          have HR3 : Hid (Rd wa.heap.size w3 V2 vn2 vc2 O on oc (((L.take (k + 1)).filter q).map (·.cell)) ((L.take (k + 1)).filter fun d => !q d)) := Lib.hid (by rw [(HYES.out rfl).1, (HYES.out rfl).2]; exact hr3)
          have HB3 := Lib.hid (HBW.out.trans hb3)
          have HRUN := Lib.hid hrun
          clear hrun hr3 hb3 HRC
          go_upto_region 7 with (fail)
          go_wp2_with (at_builtin
                       refine Lib.wpList_append_run (wc.alloc (.cells #[.int .i64 d.cell] 3)) rfl (.tmp 52) (.tmp 61) 35 35 rfl (.slice V vn vc) (.slice (some ⟨wc.heap.size, 0, none⟩) 1 1) rfl rfl _ _ HRUN.out ?_)
          go_roundw
          case rel => exact ⟨k + 1, V2, O, vn2, vc2, on, oc, by omega, by go_num, rfl, rfl, HR3, HB3⟩
          case measure => simp [intOf]; omega
        | false =>
          obtain ⟨O2, on2, oc2, w3, hrun, hr3, hb3⟩ := HRC.out.left d HBW.out.size (by have := HLO.out.2; omega)
          have HR3 : Hid (Rd wa.heap.size w3 V vn vc O2 on2 oc2 (((L.take (k + 1)).filter q).map (·.cell)) ((L.take (k + 1)).filter fun d => !q d)) := Lib.hid (by rw [(HNO.out rfl).1, (HNO.out rfl).2]; exact hr3)
          have HB3 := Lib.hid (HBW.out.trans hb3)
          have HRUN := Lib.hid hrun
          clear hrun hr3 hb3 HRC
          go_upto_region 8 with (fail)
          go_wp2_with (at_builtin
                       refine Lib.wpList_append_run (wc.alloc (.cells #[.int .i64 d.cell, .int .i64 d.tid.node, .int .i64 d.tid.epoch, .int .i64 d.tid.seq, .int .i64 d.til] 53)) rfl (.tmp 63) (.tmp 71) 30 30 rfl (.slice O on oc) (.slice (some ⟨wc.heap.size, 0, none⟩) 1 1) rfl rfl _ _ HRUN.out ?_)
          go_roundw
          case rel => exact ⟨k + 1, V, O2, vn, vc, on2, oc2, by omega, by go_num, rfl, rfl, HR3, HB3⟩
          case measure => simp [intOf]; omega
    · obtain rfl : n = k := by omega
      have hR := HR.out
      rw [List.take_of_length_le (Nat.le_of_eq HLL.out), ← HEND.out.1, ← HEND.out.2] at hR
      obtain ⟨hon, _⟩ := OwnG.sl fit_dh hR.ls
      obtain ⟨D, hD⟩ : ∃ D, docF 0 (dropT (goP bt who now) T) = D := ⟨_, rfl⟩
      have HDL2 := HDL.out
      rw [hD] at hR hon HDL2
      subst hon
      have hfin := LxAt.newL HRA.out HBW0.out HBR.out hR.ls HDL2
      have f1 := (HRA.out.later HBR.out).cel.frozen (j := 1) (by simp)
      have HFIN : Hid (LrStep B rb A wa (docR (dropT (goP bt who now) T)) (wr.setCell ⟨rb, 1, none⟩ (.slice O D.length oc))) := Lib.hid (by
        unfold docR at hfin ⊢
        rw [dropT_len, hD]
        exact hfin)
      have HOUT : Hid (OwnI wa.heap.size (wr.setCell ⟨rb, 1, none⟩ (.slice O D.length oc)) (.slice V vn vc) (goneT (goP bt who now) 0 T)) := Lib.hid (hR.os.only (Only.of_set wr ⟨rb, 1, none⟩ _) fun j e e2 => by
        have h1 := (hR.os.lt e).1
        have h2 := HRA.out.cel.lt
        have h3 : j = rb := e2
        omega)
      obtain ⟨dl, hdl⟩ : ∃ x, D.length = x := ⟨_, rfl⟩
      rw [hdl] at HFIN HOUT ⊢
      clear hR hfin hD HDL2 hdl HR
      go_wp2_with fail
      go_returns
      exact ⟨_, _, _, rfl, OwnG.up HB.out.size HOUT.out, LxStep.before HB.out HFIN.out⟩
end
end Go.Proofs.Ytiobblmagjbhjaa.Lea
