/-
  P17.1: Whatever is put, used and dropped, in any order, a cache answers and has what the document says. Conditions: none.
-/
import Derived.Test.YteedlenelfidcaaCacSw0
import Derived.Test.YteedlenelfidcaaCacSw1
import Derived.Test.YteedlenelfidcaaCacSw2
import Derived.Test.YteedlenelfidcaaCacSw3
import Derived.Test.YteedlenelfidcaaCacSw4
import Derived.Test.YteedlenelfidcaaCacSw5
import Derived.Test.YteedlenelfidcaaCacSw6
namespace Go.Proofs.Yteedlenelfidcaa.CachePlays
set_option maxRecDepth 100000
open Go.ChangeShapes Go.WideShapes Go.ChangeAt Go.RowKit Go.Deep Go.Proofs.Yteedlenelfidcaa.Mem Go.Proofs.Yteedlenelfidcaa.Cac

def cacPl53 (cb rb q ac : Nat) (RA : Option Addr) (l : List En) : Nat → Value → World → Prop
  | 0, v, _ => v = .pointer (some ⟨cb, 0, none⟩)
  | 1, v, w => ∃ V0 c0, v = Value.slice V0 q c0 ∧ Sl w V0 4 (l.map En.vals)
  | 2, v, w => ∃ V0 c0, v = Value.slice V0 q c0 ∧ Sl w V0 4 (l.map En.vals)
  | 3, v, _ => v = .pointer (some ⟨rb, 0, none⟩)
  | 4, v, _ => v = .pointer (some ⟨rb, 0, none⟩)
  | 5, v, _ => v = .pointer (some ⟨rb, 1, none⟩)
  | 6, v, _ => v = .slice RA q ac
  | 7, v, _ => v = .bool true
  | 8, v, _ => v = .bool false
  | _, _, _ => True
theorem cacPl53_later {cb rb q ac : Nat} {RA : Option Addr} {l : List En} {j : Nat} {v : Value} {w w' : World} (hb : Below w.heap.size w w') (h : cacPl53 cb rb q ac RA l j v w) : cacPl53 cb rb q ac RA l j v w' := by
  match j, h with
  | 0, h | 3, h | 4, h | 5, h | 6, h | 7, h | 8, h => exact h
  | 1, h =>
    obtain ⟨V0, c0, h1, h2⟩ := h
    exact ⟨V0, c0, h1, h2.later hb⟩
  | 2, h =>
    obtain ⟨V0, c0, h1, h2⟩ := h
    exact ⟨V0, c0, h1, h2.later hb⟩
  | _ + 9, _ => exact trivial
set_option maxHeartbeats 8000000 in
theorem walk (room : Int) (A : Option Addr) (os : List Opk) (cap : Nat) (w : World) (h : Opks w A os) (hl : os.length ≤ 140737488351232) :
    Calls Try.prog 3 #[.int .i64 room, .slice A os.length cap] w fun e w' => e = .returned (.bool true) ∧ Below w.heap.size w w' := by
  have HA := Lib.hid (awake_any w)
  have HH := Lib.hid h
  have HGR := Lib.hid (fun (wi : World) (hb : Below w.heap.size w wi) => great_any A os cap wi (h.later hb) hl)
  obtain ⟨N, hN⟩ : ∃ n, os.length = n := ⟨_, rfl⟩
  have HN := Lib.hid hN
  obtain ⟨gr, hgr⟩ : ∃ b, greatN os = b := ⟨_, rfl⟩
  have HG := Lib.hid hgr
  rw [hN] at hl HGR ⊢
  rw [hgr] at HGR
  clear h hN hgr
  cases gr with
  | true =>
    go_enter Try.func3, Try.ntmps3
    go_wp2_with fail
    refine HA.out.mono ?_
    rintro e w1 ⟨rfl, hb1⟩
    have HB1 := Lib.hid hb1
    clear hb1
    go_wp2_with fail
    refine (HGR.out w1 HB1.out).mono ?_
    rintro e w2 ⟨rfl, hb2⟩
    have HB2 := Lib.hid (HB1.out.trans (hb2.mono HB1.out.size))
    clear hb2
    go_wp2_with fail
    go_returns
    exact ⟨rfl, HB2.out⟩
  | false =>
    have HSM := Lib.hid (great_no HG.out)
    by_cases hbad : room < 1 ∨ 16 < room
    · have HNB := Lib.hid (fun wi => New_bad wi room hbad)
      by_cases hr1 : room < 1
      · go_enter Try.func3, Try.ntmps3
        go_wp2_with fail
        refine HA.out.mono ?_
        rintro e w0 ⟨rfl, hb0⟩
        have HB0 := Lib.hid hb0
        clear hb0 HA
        go_wp2_with fail
        refine (HGR.out w0 HB0.out).mono ?_
        rintro e w1 ⟨rfl, hb1⟩
        have HB1 := Lib.hid (HB0.out.trans (hb1.mono HB0.out.size))
        clear hb1 HGR HB0
        go_wp2_with fail
        refine (HNB.out w1).mono ?_
        rintro e w2 ⟨rfl, hw2⟩
        rw [hw2]
        clear hw2 w2
        go_wp2_with fail
        go_returns
        exact ⟨rfl, HB1.out⟩
      · have hr2 : 16 < room := by omega
        go_enter Try.func3, Try.ntmps3
        go_wp2_with fail
        refine HA.out.mono ?_
        rintro e w0 ⟨rfl, hb0⟩
        have HB0 := Lib.hid hb0
        clear hb0 HA
        go_wp2_with fail
        refine (HGR.out w0 HB0.out).mono ?_
        rintro e w1 ⟨rfl, hb1⟩
        have HB1 := Lib.hid (HB0.out.trans (hb1.mono HB0.out.size))
        clear hb1 HGR HB0
        go_wp2_with fail
        refine (HNB.out w1).mono ?_
        rintro e w2 ⟨rfl, hw2⟩
        rw [hw2]
        clear hw2 w2
        go_wp2_with fail
        go_returns
        exact ⟨rfl, HB1.out⟩
    · have hr1 : ¬ room < 1 := fun e => hbad (Or.inl e)
      have hr2 : ¬ 16 < room := fun e => hbad (Or.inr e)
      have HOK : Hid (Cok ⟨room, []⟩) := Lib.hid (Cok.new (by omega) (by omega))
      have HNW := Lib.hid (fun wi => New_any wi room (by omega) (by omega))
      clear hbad
      go_enter Try.func3, Try.ntmps3
      go_wp2_with fail
      refine HA.out.mono ?_
      rintro e w0 ⟨rfl, hb0⟩
      have HB0 := Lib.hid hb0
      clear hb0 HA
      go_wp2_with fail
      refine (HGR.out w0 HB0.out).mono ?_
      rintro e w1 ⟨rfl, hb1⟩
      have HB1 := Lib.hid (HB0.out.trans (hb1.mono HB0.out.size))
      clear hb1 HGR HB0
      go_wp2_with fail
      refine (HNW.out w1).mono ?_
      rintro e wa ⟨rfl, hwa, hba⟩
      obtain ⟨wb, hwb⟩ : ∃ W, W = wa.alloc (.cells #[.int .i64 room, .slice none 0 0] 32) := ⟨_, rfl⟩
      have hbb : Below wa.heap.size wa wb := by rw [hwb]; exact below_alloc _ _
      have hcb : Cells wb wa.heap.size 32 [.int .i64 room, .slice none 0 0] := by rw [hwb]; exact cells_new _ _ _ _ rfl
      have HB2 := Lib.hid (hba.trans (hbb.mono hba.size))
      have hrw : CrAt w1.heap.size wb wa.heap.size ⟨room, []⟩ none 0 := ⟨hcb, ⟨by simp, Or.inl ⟨rfl, rfl⟩⟩, hba.size, (fun k e => by cases e), Nat.zero_le _⟩
      obtain ⟨cb, hcbe⟩ : ∃ cb, w1.heap.size = cb := ⟨_, rfl⟩
      obtain ⟨rb, hrbe⟩ : ∃ rb, wa.heap.size = rb := ⟨_, rfl⟩
      have hcw : CcAt w1.heap.size wb cb ⟨room, []⟩ none 0 := by rw [← hcbe]; exact hwa.later hbb
      have hlt : cb < rb := by rw [← hcbe, ← hrbe]; exact hwa.cel.lt
      rw [hrbe] at hrw
      have HST : Hid (∀ cells : Array Value, Two w1.heap.size w1 (wb.alloc (.cells cells 36)) cb rb wb.heap.size cells.toList (fun j => j = wb.heap.size) ⟨room, []⟩ ⟨room, []⟩) := Lib.hid fun cells => by
        have hal := below_alloc wb (.cells cells 36)
        have hnew := cells_new wb 36 cells.toList cells rfl
        refine ⟨⟨none, 0, none, 0, hcw.later hal, hrw.later hal, fun k e e2 => ?_, fun k e e2 => ?_⟩, hnew, HB2.out.trans (hal.mono HB2.out.size), Nat.le_trans HB2.out.size hal.size, rfl, fun k e => by rw [e]; exact hnew.lt⟩
        · rcases e with e | e
          · rcases e2 with e2 | e2
            · omega
            · cases e2
          · cases e
        · rcases e with e | e
          · have := (hcw.lt e).2; omega
          · have := (hrw.lt e).2; omega
      have HCB := Lib.hid hcbe
      clear hwa hba hbb hcb hrw hcw hlt HNW
      go_upto_region 11 with (fail)
      rw [← hwb]
      try rw [hcbe]
      try rw [hrbe]
      clear hwb hcbe hrbe
      go_wp2_with fail
      go_loopw [57] (fun i wr => ∃ (k : Nat) (R : Cc), k ≤ N ∧ i = .int .i64 (k : Int) ∧ Hid (Cok R) ∧ Hid (∀ cells : Array Value, Two w1.heap.size w1 (wr.alloc (.cells cells 36)) cb rb wr.heap.size cells.toList (fun j => j = wr.heap.size) R R) ∧ Hid (Below w1.heap.size w1 wr)) (fun i _ => N - (intOf i).toNat)
      case atStart => exact ⟨0, _, Nat.zero_le _, rfl, HOK, HST, HB2⟩
      case round =>
        clear HST HB2 HOK
        obtain ⟨k, R, hk, rfl, HK, HS, HB⟩ := hrel
        by_cases hkn : k < N
        · have hkl : k < os.length := by rw [HN.out]; exact hkn
          obtain ⟨g, off, rfl, hr, ho⟩ := (((HH.out.later HB1.out).later HB.out)).at hkl
          have hm40 := HSM.out.2 _ (List.getElem_mem hkl)
          obtain ⟨o, hoe⟩ : ∃ o, os[k] = o := ⟨_, rfl⟩
          rw [hoe] at hr ho hm40
          have HIN : Hid (∀ w', Below w1.heap.size w1 w' → o.Ok w') := Lib.hid fun w' hb => by rw [← hoe]; exact (((HH.out.later HB1.out).later hb).2 _ (List.getElem_mem hkl))
          have h3 := (HH.out.later HB1.out).2 _ (List.getElem_mem hkl)
          rw [hoe] at h3
          have HOBL : Hid ((∀ i, o.l ≠ [] → blk o.A = some i → i < w1.heap.size) ∧ ∀ i, o.cs ≠ [] → blk o.C = some i → i < w1.heap.size) := Lib.hid ⟨fun i hne hb => sl_lt h3.es (fun v hv => by obtain ⟨x, _, rfl⟩ := List.mem_map.1 hv; exact fun q => by cases q) (fun q => hne (List.map_eq_nil_iff.1 q)) hb, fun i hne hb => sl_lt h3.is (fun v hv => by obtain ⟨x, _, rfl⟩ := List.mem_map.1 hv; exact fun q => by cases q) (fun q => hne (List.map_eq_nil_iff.1 q)) hb⟩
          obtain ⟨ok, oc, ov, oA, oac, ol, oC, occ, ocs⟩ := o
          dsimp only at hm40
          obtain ⟨lq, hlq⟩ : ∃ q, ol.length = q := ⟨_, rfl⟩
          obtain ⟨cq, hcq⟩ : ∃ q, ocs.length = q := ⟨_, rfl⟩
          have HLQ := Lib.hid hlq
          have HCQ := Lib.hid hcq
          unfold Opk.vals at hr
          dsimp only at hr
          rw [hlq] at hr hm40
          rw [hcq] at hr hm40
          obtain ⟨hl40, hc40⟩ := hm40
          have x0 := hr 0 _ rfl
          rw [Nat.add_zero] at x0
          have x1 := hr 1 _ rfl
          have x2 := hr 2 _ rfl
          have x3 := hr 3 _ rfl
          have x4 := hr 4 _ rfl
          obtain ⟨we, hwe⟩ : ∃ W, W = wr.alloc (.cells #[.int .i64 ok, .int .i64 oc, .int .i64 ov, .slice oA lq oac, .slice oC cq occ] 36) := ⟨_, rfl⟩
          obtain ⟨gb, hgb⟩ : ∃ gb, wr.heap.size = gb := ⟨_, rfl⟩
          obtain ⟨F, hF⟩ : ∃ F : Nat → Prop, F = fun j => j = gb := ⟨_, rfl⟩
          have hT := HS.out #[.int .i64 ok, .int .i64 oc, .int .i64 ov, .slice oA lq oac, .slice oC cq occ]
          rw [← hwe, hgb, ← hF] at hT
          have y0 := hT.box.cell (j := 0) rfl
          obtain ⟨vs, hvs⟩ : ∃ vs : List Value, vs = [.int .i64 ok, .int .i64 oc, .int .i64 ov, .slice oA lq oac, .slice oC cq occ] := ⟨_, rfl⟩
          replace hT : Two w1.heap.size w1 we cb rb gb [.int .i64 ok, .int .i64 oc, .int .i64 ov, .slice oA lq oac, .slice oC cq occ] F R R := hT
          rw [← hvs] at hT
          have HV : Hid (vs[1]? = some (.int .i64 oc) ∧ vs[2]? = some (.int .i64 ov) ∧ vs[3]? = some (.slice oA lq oac) ∧ vs[4]? = some (.slice oC cq occ)) := Lib.hid (by rw [hvs]; exact ⟨rfl, rfl, rfl, rfl⟩)
          have HT := Lib.hid hT
          clear hr ho hoe hkl h3 hlq hcq hT hvs HS HB hF
          go_upto_block 2 with fail
          rw [← hwe]
          clear hwe x0 x1 x2 x3 x4
          try rw [hgb]
          clear hgb
          go_cut [10, 12, 13, 14, 15, 16, 17, 18, 19, 20, 21, 22, 24] from 63 to 210 (fun _ _ _ _ _ _ _ _ _ _ _ _ _ wx => ∃ R' : Cc, Hid (Cok R') ∧ Hid (Two w1.heap.size w1 wx cb rb gb vs F R' R'))
          case first =>
            by_cases k0 : ok = 0
            · refine sw0 ⟨HT, HV, HK, HIN, HOBL, HLQ, HCQ, hl40, hc40⟩ k0 (by kernel_rfl) ?_
              intro u10 u12 u13 u14 u15 u16 u17 u18 u19 u20 u21 u22 u24 u63 u64 u65 u66 u67 u68 u69 u70 u71 u72 u73 u74 u75 u76 u77 u78 u79 u80 u81 u82 u83 u84 u85 u86 u87 u88 u89 u90 u91 u92 u93 u94 u95 u96 u97 u98 u99 u100 u101 u102 u103 u104 u105 u106 u107 u108 u109 u110 u111 u112 u113 u114 u115 u116 u117 u118 u119 u120 u121 u122 u123 u124 u125 u126 u127 u128 u129 u130 u131 u132 u133 u134 u135 u136 u137 u138 u139 u140 u141 u142 u143 u144 u145 u146 u147 u148 u149 u150 u151 u152 u153 u154 u155 u156 u157 u158 u159 u160 u161 u162 u163 u164 u165 u166 u167 u168 u169 u170 u171 u172 u173 u174 u175 u176 u177 u178 u179 u180 u181 u182 u183 u184 u185 u186 u187 u188 u189 u190 u191 u192 u193 u194 u195 u196 u197 u198 u199 u200 u201 u202 u203 u204 u205 u206 u207 u208 u209 u210 w' hcut2
              apply_assumption
              go_meet
              case rel => exact hcut2
            · by_cases k1 : ok = 1
              · refine sw1 ⟨HT, HV, HK, HIN, HOBL, HLQ, HCQ, hl40, hc40⟩ k1 (by kernel_rfl) ?_
                intro u10 u12 u13 u14 u15 u16 u17 u18 u19 u20 u21 u22 u24 u63 u64 u65 u66 u67 u68 u69 u70 u71 u72 u73 u74 u75 u76 u77 u78 u79 u80 u81 u82 u83 u84 u85 u86 u87 u88 u89 u90 u91 u92 u93 u94 u95 u96 u97 u98 u99 u100 u101 u102 u103 u104 u105 u106 u107 u108 u109 u110 u111 u112 u113 u114 u115 u116 u117 u118 u119 u120 u121 u122 u123 u124 u125 u126 u127 u128 u129 u130 u131 u132 u133 u134 u135 u136 u137 u138 u139 u140 u141 u142 u143 u144 u145 u146 u147 u148 u149 u150 u151 u152 u153 u154 u155 u156 u157 u158 u159 u160 u161 u162 u163 u164 u165 u166 u167 u168 u169 u170 u171 u172 u173 u174 u175 u176 u177 u178 u179 u180 u181 u182 u183 u184 u185 u186 u187 u188 u189 u190 u191 u192 u193 u194 u195 u196 u197 u198 u199 u200 u201 u202 u203 u204 u205 u206 u207 u208 u209 u210 w' hcut2
                apply_assumption
                go_meet
                case rel => exact hcut2
              · by_cases k2 : ok = 2
                · refine sw2 ⟨HT, HV, HK, HIN, HOBL, HLQ, HCQ, hl40, hc40⟩ k2 (by kernel_rfl) ?_
                  intro u10 u12 u13 u14 u15 u16 u17 u18 u19 u20 u21 u22 u24 u63 u64 u65 u66 u67 u68 u69 u70 u71 u72 u73 u74 u75 u76 u77 u78 u79 u80 u81 u82 u83 u84 u85 u86 u87 u88 u89 u90 u91 u92 u93 u94 u95 u96 u97 u98 u99 u100 u101 u102 u103 u104 u105 u106 u107 u108 u109 u110 u111 u112 u113 u114 u115 u116 u117 u118 u119 u120 u121 u122 u123 u124 u125 u126 u127 u128 u129 u130 u131 u132 u133 u134 u135 u136 u137 u138 u139 u140 u141 u142 u143 u144 u145 u146 u147 u148 u149 u150 u151 u152 u153 u154 u155 u156 u157 u158 u159 u160 u161 u162 u163 u164 u165 u166 u167 u168 u169 u170 u171 u172 u173 u174 u175 u176 u177 u178 u179 u180 u181 u182 u183 u184 u185 u186 u187 u188 u189 u190 u191 u192 u193 u194 u195 u196 u197 u198 u199 u200 u201 u202 u203 u204 u205 u206 u207 u208 u209 u210 w' hcut2
                  apply_assumption
                  go_meet
                  case rel => exact hcut2
                · by_cases k3 : ok = 3
                  · refine sw3 ⟨HT, HV, HK, HIN, HOBL, HLQ, HCQ, hl40, hc40⟩ k3 (by kernel_rfl) ?_
                    intro u10 u12 u13 u14 u15 u16 u17 u18 u19 u20 u21 u22 u24 u63 u64 u65 u66 u67 u68 u69 u70 u71 u72 u73 u74 u75 u76 u77 u78 u79 u80 u81 u82 u83 u84 u85 u86 u87 u88 u89 u90 u91 u92 u93 u94 u95 u96 u97 u98 u99 u100 u101 u102 u103 u104 u105 u106 u107 u108 u109 u110 u111 u112 u113 u114 u115 u116 u117 u118 u119 u120 u121 u122 u123 u124 u125 u126 u127 u128 u129 u130 u131 u132 u133 u134 u135 u136 u137 u138 u139 u140 u141 u142 u143 u144 u145 u146 u147 u148 u149 u150 u151 u152 u153 u154 u155 u156 u157 u158 u159 u160 u161 u162 u163 u164 u165 u166 u167 u168 u169 u170 u171 u172 u173 u174 u175 u176 u177 u178 u179 u180 u181 u182 u183 u184 u185 u186 u187 u188 u189 u190 u191 u192 u193 u194 u195 u196 u197 u198 u199 u200 u201 u202 u203 u204 u205 u206 u207 u208 u209 u210 w' hcut2
                    apply_assumption
                    go_meet
                    case rel => exact hcut2
                  · by_cases k4 : ok = 4
                    · refine sw4 ⟨HT, HV, HK, HIN, HOBL, HLQ, HCQ, hl40, hc40⟩ k4 (by kernel_rfl) ?_
                      intro u10 u12 u13 u14 u15 u16 u17 u18 u19 u20 u21 u22 u24 u63 u64 u65 u66 u67 u68 u69 u70 u71 u72 u73 u74 u75 u76 u77 u78 u79 u80 u81 u82 u83 u84 u85 u86 u87 u88 u89 u90 u91 u92 u93 u94 u95 u96 u97 u98 u99 u100 u101 u102 u103 u104 u105 u106 u107 u108 u109 u110 u111 u112 u113 u114 u115 u116 u117 u118 u119 u120 u121 u122 u123 u124 u125 u126 u127 u128 u129 u130 u131 u132 u133 u134 u135 u136 u137 u138 u139 u140 u141 u142 u143 u144 u145 u146 u147 u148 u149 u150 u151 u152 u153 u154 u155 u156 u157 u158 u159 u160 u161 u162 u163 u164 u165 u166 u167 u168 u169 u170 u171 u172 u173 u174 u175 u176 u177 u178 u179 u180 u181 u182 u183 u184 u185 u186 u187 u188 u189 u190 u191 u192 u193 u194 u195 u196 u197 u198 u199 u200 u201 u202 u203 u204 u205 u206 u207 u208 u209 u210 w' hcut2
                      apply_assumption
                      go_meet
                      case rel => exact hcut2
                    · by_cases k5 : ok = 5
                      · refine sw5 ⟨HT, HV, HK, HIN, HOBL, HLQ, HCQ, hl40, hc40⟩ k5 (by kernel_rfl) ?_
                        intro u10 u12 u13 u14 u15 u16 u17 u18 u19 u20 u21 u22 u24 u63 u64 u65 u66 u67 u68 u69 u70 u71 u72 u73 u74 u75 u76 u77 u78 u79 u80 u81 u82 u83 u84 u85 u86 u87 u88 u89 u90 u91 u92 u93 u94 u95 u96 u97 u98 u99 u100 u101 u102 u103 u104 u105 u106 u107 u108 u109 u110 u111 u112 u113 u114 u115 u116 u117 u118 u119 u120 u121 u122 u123 u124 u125 u126 u127 u128 u129 u130 u131 u132 u133 u134 u135 u136 u137 u138 u139 u140 u141 u142 u143 u144 u145 u146 u147 u148 u149 u150 u151 u152 u153 u154 u155 u156 u157 u158 u159 u160 u161 u162 u163 u164 u165 u166 u167 u168 u169 u170 u171 u172 u173 u174 u175 u176 u177 u178 u179 u180 u181 u182 u183 u184 u185 u186 u187 u188 u189 u190 u191 u192 u193 u194 u195 u196 u197 u198 u199 u200 u201 u202 u203 u204 u205 u206 u207 u208 u209 u210 w' hcut2
                        apply_assumption
                        go_meet
                        case rel => exact hcut2
                      · refine sw6 ⟨HT, HV, HK, HIN, HOBL, HLQ, HCQ, hl40, hc40⟩ ⟨k0, k1, k2, k3, k4, k5⟩ (by kernel_rfl) ?_
                        intro u10 u12 u13 u14 u15 u16 u17 u18 u19 u20 u21 u22 u24 u63 u64 u65 u66 u67 u68 u69 u70 u71 u72 u73 u74 u75 u76 u77 u78 u79 u80 u81 u82 u83 u84 u85 u86 u87 u88 u89 u90 u91 u92 u93 u94 u95 u96 u97 u98 u99 u100 u101 u102 u103 u104 u105 u106 u107 u108 u109 u110 u111 u112 u113 u114 u115 u116 u117 u118 u119 u120 u121 u122 u123 u124 u125 u126 u127 u128 u129 u130 u131 u132 u133 u134 u135 u136 u137 u138 u139 u140 u141 u142 u143 u144 u145 u146 u147 u148 u149 u150 u151 u152 u153 u154 u155 u156 u157 u158 u159 u160 u161 u162 u163 u164 u165 u166 u167 u168 u169 u170 u171 u172 u173 u174 u175 u176 u177 u178 u179 u180 u181 u182 u183 u184 u185 u186 u187 u188 u189 u190 u191 u192 u193 u194 u195 u196 u197 u198 u199 u200 u201 u202 u203 u204 u205 u206 u207 u208 u209 u210 w' hcut2
                        apply_assumption
                        go_meet
                        case rel => exact hcut2
          case rest =>
            obtain ⟨R', HK2, HT2⟩ := hcut
            obtain ⟨we, hwe⟩ : ∃ W, wc = W := ⟨_, rfl⟩
            rw [hwe] at HT2 ⊢
            clear hwe
            obtain ⟨A1, c1, RA, ac, hx, hy, _, _⟩ := HT2.out.ex
            obtain ⟨l, hle⟩ : ∃ l, R'.l = l := ⟨_, rfl⟩
            obtain ⟨q, hq⟩ : ∃ q, l.length = q := ⟨_, rfl⟩
            have hq16 : q ≤ 16 := by rw [← hq, ← hle]; exact HK2.out.l16
            have HR1 : Hid (∀ wi, Below we.heap.size we wi → wi.cell? ⟨rb, 1, none⟩ = some (.slice RA q ac)) := Lib.hid fun wi hb => by
              have h1 := (hy.later hb).cel.cell (j := 1) rfl
              rw [hle, hq] at h1
              exact h1
            have HALL : Hid (∀ wi, Below we.heap.size we wi → Calls Try.prog 22 #[.pointer (some ⟨cb, 0, none⟩)] wi fun e w' => ∃ V0 c0, e = .returned (.slice V0 q c0) ∧ Sl w' V0 4 (l.map En.vals) ∧ Below wi.heap.size wi w') := Lib.hid fun wi hb => by
              have h1 := All_any (hx.later hb)
              rw [hle, hq] at h1
              refine h1.mono ?_
              rintro e w' ⟨A2, c2, rfl, hrow, hb'⟩
              exact ⟨A2, c2, rfl, (OwnG.sl fit_es hrow).2, hb'⟩
            have HPLN : Hid (∀ wi V1 c1, Sl wi V1 4 (l.map En.vals) → Calls Try.prog 21 #[.slice V1 q c1] wi fun e w' => ∃ V0 c0, e = .returned (.slice V0 q c0) ∧ Sl w' V0 4 (l.map En.vals) ∧ Below wi.heap.size wi w') := Lib.hid fun wi V1 c1 hs => by
              have h1 := plain_any l V1 c1 wi hs (by omega)
              rw [hq] at h1
              refine h1.mono ?_
              rintro e w' ⟨V, vc, rfl, hrow, hb'⟩
              exact ⟨V, vc, rfl, (OwnG.sl fit_es hrow).2, hb'⟩
            have HSM2 : Hid (∀ wi V1 c1, Below we.heap.size we wi → Sl wi V1 4 (l.map En.vals) → Calls Try.prog 20 #[.slice V1 q c1, .slice RA q ac] wi fun e w' => e = .returned (.bool true) ∧ Below wi.heap.size wi w') := Lib.hid fun wi V1 c1 hb hs => by
              have h2 := (hy.later hb).sl
              rw [hle] at h2
              have h1 := RSame_any V1 RA l c1 ac wi hs h2 (by omega)
              rw [hq] at h1
              exact h1
            clear hx hy hle hq HSM
            have HSM := HSM2
            clear HSM2
            go_upto_region 53 with (fail)
            refine Reg.region_heavy (by kernel_rfl) 8 [8] (cacPl53 cb rb q ac RA l) (fun a => Below we.heap.size we a) (fun a => Below we.heap.size we a) (fun V => [(some 211, V 0), (some 212, V 1), (some 213, V 2), (some 214, V 3), (some 215, V 4), (some 216, V 5), (some 217, V 6), (some 218, V 7), (some 219, V 8)]) (by kernel_rfl) (by kernel_rfl) (by kernel_rfl) (fun V => rfl) ?_ ?_ ?_
            · exact (Below.refl _ _).drew
            · intro i o ho
              have hi : i < 9 := (Array.getElem?_eq_some_iff.1 ho).1
              rcases i with _ | _ | _ | _ | _ | _ | _ | _ | _ | i
              rotate_right
              · omega
              all_goals obtain rfl := Option.some.inj ho
              all_goals intro ρ wi hE hI hs hd
              all_goals try dsimp only at hI
              · have e5 : ρ (.tmp 5) = .pointer (some ⟨cb, 0, none⟩) := hs 5; exact Reg.gw hI
              · obtain ⟨_, rfl, e211⟩ := hd 0 211; have hf := hE.func
                refine Reg.Gives.call (f := 22) (args := #[.pointer (some ⟨cb, 0, none⟩)]) (w' := wi) (by go_simp) ?_
                refine (HALL.out wi hI).mono ?_
                rintro e w'' ⟨V0, c0, rfl, hp, hb⟩
                exact ⟨_, rfl, ⟨⟨V0, c0, rfl, hp⟩, hI.trans (hb.mono hI.size), fun j u _ _ h => cacPl53_later hb h⟩⟩
              · obtain ⟨u212, g212, e212⟩ := hd 1 212; have hf := hE.func; obtain ⟨V1, c1, rfl, hp1⟩ := g212
                refine Reg.Gives.call (f := 21) (args := #[.slice V1 q c1]) (w' := wi) (by go_simp) ?_
                refine (HPLN.out wi V1 c1 hp1).mono ?_
                rintro e w'' ⟨V0, c0, rfl, hp, hb⟩
                exact ⟨_, rfl, ⟨⟨V0, c0, rfl, hp⟩, hI.trans (hb.mono hI.size), fun j u _ _ h => cacPl53_later hb h⟩⟩
              · have e7 : ρ (.tmp 7) = .pointer (some ⟨rb, 0, none⟩) := hs 7; exact Reg.gw hI
              · obtain ⟨_, rfl, e214⟩ := hd 3 214; exact Reg.gw hI
              · obtain ⟨_, rfl, e215⟩ := hd 4 215; exact Reg.gw hI
              · obtain ⟨_, rfl, e216⟩ := hd 5 216; have x0 := HR1.out _ hI; exact Reg.gw hI
              · obtain ⟨u213, g213, e213⟩ := hd 2 213; obtain ⟨_, rfl, e217⟩ := hd 6 217; have hf := hE.func; obtain ⟨V1, c1, rfl, hp1⟩ := g213
                refine Reg.Gives.call (f := 20) (args := #[.slice V1 q c1, .slice RA q ac]) (w' := wi) (by go_simp) ?_
                refine (HSM.out wi V1 c1 hI hp1).mono ?_
                rintro e w'' ⟨rfl, hb⟩
                exact ⟨_, rfl, ⟨rfl, hI.trans (hb.mono hI.size), fun j u _ _ h => cacPl53_later hb h⟩⟩
              · obtain ⟨_, rfl, e218⟩ := hd 7 218; exact Reg.gw hI
            · intro V wf hV hI
              have hV8 : V 8 = .bool false := hV 8 (by decide) rfl
              simp only [Reg.putsO, List.foldl_cons, List.foldl_nil, Act.put, List.setIfInBounds_toArray, List.set_cons_succ, List.set_cons_zero, hV8]
              replace hI : (fun a => Below we.heap.size we a) wf := hI
              clear hV hV8
              have HT3 := HT2.out.later hI
              have HSN : Hid (∀ cells : Array Value, Two w1.heap.size w1 (wf.alloc (.cells cells 36)) cb rb wf.heap.size cells.toList (fun j => j = wf.heap.size) R' R') := Lib.hid fun cells => HT3.next cells rfl
              have HBN := Lib.hid HT3.low
              clear hI HT3
              go_wp2_with fail
              go_roundw
              case rel => exact ⟨k + 1, R', by omega, by go_num, HK2, HSN, HBN⟩
              case measure => simp [intOf]; omega
        · obtain rfl : k = N := by omega
          go_wp2_with fail
          go_returns
          exact ⟨rfl, HB1.out.trans (HB.out.mono HB1.out.size)⟩
theorem opened {H : Type} {enc : TypeId × Value → H} {W : World} {base : Nat} {gs : List (DataW H)} (v0 : Value) (d0 : DataW H) (p0 : List MemPlace) (v1 : Value) (d1 : DataW H) (p1 : List MemPlace)
    (o0 : Value.okWide Try.prog W .any base 3 v0) (t0 : DataW.Trod enc Try.prog W 0 (fun _ => true) true 3 v0 d0 p0)
    (o1 : Value.okWide Try.prog W .any base 22 v1) (t1 : DataW.Trod enc Try.prog W 0 (fun _ => true) true 22 v1 d1 p1)
    (hsz : (DataW.weightsEach Try.prog ([3, 22] ++ []) ([d0, d1] ++ gs)).all (· ≤ reachBytes) = true) :
    Calls Try.prog 3 #[v0, v1] W fun e W' => e = .returned (.bool true) ∧ Below W.heap.size W W' := by
  obtain ⟨n, rfl, _⟩ := arg_int o0 t0
  obtain ⟨a0, len, cap, rfl⟩ := okWide_slice Try.underlying22 o1
  obtain ⟨A, os, cap', e, h3, h4, _⟩ := came_ops (came_of t1 (Base.small_of hsz (j := 1) rfl rfl) (by simp [Value.cells]))
  rw [e]
  exact walk n A os cap' W h3 h4

theorem contract (H : Type) (enc : TypeId × Value → H) (W : World) (base : Nat) (args : Array Value) (ds gs : List (DataW H)) (before : List MemPlace)
    (hval : ∀ (j : Nat) t v, Try.f3.params[j]? = some t → args[j]? = some v → Value.okWide Try.prog W .any base t v)
    (hW : DataW.Whole enc Try.prog Try.f3.params.toList Rows.cachePlaysSpec.vars false W args.toList ds gs before)
    (hsz : (DataW.weightsEach Try.prog (Try.f3.params.toList ++ []) (ds ++ gs)).all (· ≤ reachBytes) = true) :
    Calls Try.prog 3 args W fun e W' => ∃ v, e = .returned v ∧ Rows.cachePlaysSpec.post enc Try.prog Try.f3 false true false false W args v W' := by
  have hW0 := hW
  obtain ⟨p, q, hA0, hV, rfl, _, _⟩ := hW
  have hA : DataW.TrodAll enc Try.prog W 0 (fun _ => true) true Try.f3.params.toList args.toList ds p := hA0
  rw [Try.params3] at hA hval hsz
  obtain ⟨v0, vs0, d0, ds0, p0, q0, hargs, rfl, rfl, h0, r0⟩ := trodAll_cons hA
  obtain ⟨v1, vs1, d1, ds1, p1, q1, rfl, rfl, rfl, h1, r1⟩ := trodAll_cons r0
  obtain ⟨rfl, rfl, rfl⟩ := trodAll_nil r1
  obtain rfl : args = #[v0, v1] := by cases args; simp_all
  refine (opened v0 d0 p0 v1 d1 p1 (hval 0 3 v0 rfl rfl) h0 (hval 1 22 v1 rfl rfl) h1 hsz).mono fun e W' ⟨he, hb⟩ => ⟨_, he, ?_⟩
  exact Base.law_post (tb := 4) Base.laidOut (by kernel_rfl) rfl Try.underlying4 rfl (fun l hl => by
    rw [Try.params3] at hl
    match l, hl with
    | [_, _], _ => rfl) (by rw [Try.params3]; rfl) hW0 hb

theorem laid_met (os : Os) : laidMet Try.prog Rows.cachePlaysRow.laid ((Base.plainWorld os).forCall (fun _ _ => 0) ⟨#[], #[.int .i64 0, .slice none 0 0], []⟩).memory := laidMet_nil _ _
theorem reads (os : Os) {H : Type} (enc : TypeId × Value → H) : ∃ places, DataW.whole enc Try.prog ((Base.plainWorld os).forCall (fun _ _ => 0) ⟨#[], #[.int .i64 0, .slice none 0 0], []⟩).memory Try.f3.params.toList Rows.cachePlaysSpec.vars false (#[.int .i64 0, .slice none 0 0] : Array Value).toList 8 = some ([.lit (.int .i64 0), .nil], [], places) :=
  ⟨[], by kernel_rfl⟩

set_option maxRecDepth 100000 in
theorem lifted (os : Os) (started : os.Started) (H : Type) (enc : TypeId × Value → H) (F : Stop.Interp) :
    ReturnsInHanded {} Try.checked os 3 .any ((OpenSpec.ofChange Rows.cachePlaysSpec).preRow enc Try.prog Try.f3 Rows.cachePlaysRow.domain false Rows.cachePlaysRow.laid) (((OpenSpec.ofChange Rows.cachePlaysSpec).at F).post enc Try.prog Try.f3 false true false false) := by
  obtain ⟨places, hx⟩ := reads os enc
  refine returnsInHanded_of_row (C := Try.checked) (s := OpenSpec.ofChange Rows.cachePlaysSpec) Base.own started (by kernel_rfl) Try.func3
    (witness_row_at (enc := enc) (C := Try.checked) false (Base.plainWorld os) #[.int .i64 0, .slice none 0 0] rfl (by kernel_rfl) (by kernel_rfl) (by kernel_rfl)
      (OpenSpec.preRow_of_cond 8 hx (by kernel_rfl) (fun k hk => by cases hk) (by kernel_rfl) (laid_met os))) ?_
  intro W base args ds gs before hval hW _ _ hsz _ _ _
  exact contract H enc W base args ds gs before hval hW hsz

theorem said : Rows.CachePlaysSaid :=
  OpenClaim.holds_of_cond 3 Try.f3 rfl rfl rfl rfl rfl rfl rfl ⟨rfl, rfl, rfl, rfl, rfl⟩ rfl rfl rfl rfl rfl (by kernel_rfl) Try.func3 (by kernel_rfl)
    (of_decide_eq_true (by kernel_rfl)) (by unfold Func.isWrapper; rw [if_neg (of_decide_eq_false (by kernel_rfl))]; exact ⟨rfl, rfl⟩)
    (fun os started H enc _ F => by rw [OpenClaim.pre_eq_preRow]; exact lifted os started H enc F)
#print axioms said
end Go.Proofs.Yteedlenelfidcaa.CachePlays
