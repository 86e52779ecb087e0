/-
  P14.1: Whatever is sent, whatever comes, in any order, a session answers and sends what the document says. Conditions: none.
-/
import Derived.Test.YtjfejfhdohpfbaaSesPlay1
import Derived.BigQuiet
import Derived.Deep.CutBlock
import Derived.Lib.LaidTab
import Derived.Deep.DeepHandedRow
namespace Go.Proofs.Ytjfejfhdohpfbaa.SessionPlays
set_option maxRecDepth 100000
open Go.ChangeShapes Go.WideShapes Go.ChangeAt Go.RowKit Go.Deep Go.Proofs.Ytjfejfhdohpfbaa.Mem Go.Proofs.Ytjfejfhdohpfbaa.Win Go.Proofs.Ytjfejfhdohpfbaa.Ses

/-- Behind a call on both sides: what each sent lies at G and Q. -/
structure Aft (w0 : World) (Bs sb rb ob : Nat) (vs : List Value) (m : Nat) (wx : World) (S1 : Sm) (FA FB : Nat → Prop) (l : List Ot) (G Q : Option Addr) : Prop where
  pq : Pq S1 m
  pb : Pb w0 Bs sb rb wx S1 S1 FA FB
  gs : Sl wx G 6 (l.map Ot.vals)
  qs : Sl wx Q 6 (l.map Ot.vals)
  few : l.length ≤ 600
  box : Cells wx ob 46 vs
  nA : ¬ FA ob
  nB : ¬ FB ob
theorem strs_low {w : World} {A : Option Addr} {ss : List ByteArray} (h : Strs w A ss) {ad : Addr} (e : A = some ad) (hne : ss ≠ []) : ad.block < w.heap.size := by
  obtain ⟨ad2, e2, hc, _⟩ := h 0 (List.length_pos_iff.2 hne)
  rw [e] at e2
  obtain rfl := Option.some.inj e2
  have := block_of_cell hc
  rwa [show (ad.add 0).block = ad.block by unfold Addr.add; split <;> rfl] at this
set_option maxHeartbeats 16000000 in
theorem walk (node nodes : Int) (A : Option Addr) (os : List Opk) (cap : Nat) (w : World) (hos : Opks w A os) (hlo : os.length ≤ 140737488351232) :
    Calls Try.prog 4 #[.int .i64 node, .int .i64 nodes, .slice A os.length cap] w fun e w' => e = .returned (.bool true) ∧ Below w.heap.size w w' := by
  have HA := Lib.hid (Ses.awake_any w)
  have HOS := Lib.hid hos
  have HGR : Hid (∀ wq, Below w.heap.size w wq → Calls Try.prog 15 #[.slice A os.length cap] wq fun e w' => e = .returned (.bool (greatO os)) ∧ Below wq.heap.size wq w') := Lib.hid fun wq hb => great_any A os cap wq (hos.later hb) hlo
  obtain ⟨n, hn⟩ : ∃ n, os.length = n := ⟨_, rfl⟩
  rw [hn] at HGR ⊢
  have HN := Lib.hid hn
  clear hn hos
  cases hg : greatO os with
  | true =>
    rw [hg] at HGR
    clear hg
    go_enter Try.func4, Try.ntmps4
    go_wp2_with fail
    refine HA.out.mono ?_
    rintro e w1 ⟨rfl, hb1⟩
    have HB1 := Lib.hid hb1
    clear hb1 HA
    go_wp2_with fail
    refine (HGR.out w1 HB1.out).mono ?_
    rintro e w2 ⟨rfl, hb2⟩
    have HB2 := Lib.hid (HB1.out.trans (hb2.mono HB1.out.size))
    clear hb2
    go_wp2_with fail
    go_returns
    exact ⟨rfl, HB2.out⟩
  | false =>
    rw [hg] at HGR
    have hg2 : n ≤ 120 ∧ ∀ o ∈ os, fitO o = true := by
      unfold greatO at hg
      rw [Bool.or_eq_false_iff, Bool.not_eq_false', List.all_eq_true] at hg
      have := of_decide_eq_false hg.1
      rw [HN.out] at this
      exact ⟨by omega, hg.2⟩
    have HFT := Lib.hid hg2.2
    have hn120 := hg2.1
    clear hg hg2 hlo
    cases hk : okNew node nodes 5 with
    | false =>
      go_enter Try.func4, Try.ntmps4
      go_wp2_with fail
      refine HA.out.mono ?_
      rintro e w1 ⟨rfl, hb1⟩
      have HB1 := Lib.hid hb1
      clear hb1 HA
      go_wp2_with fail
      refine (HGR.out w1 HB1.out).mono ?_
      rintro e w2 ⟨rfl, hb2⟩
      have HB2 := Lib.hid (HB1.out.trans (hb2.mono HB1.out.size))
      have HN1 := Lib.hid (New_bad node nodes 5 hk w2)
      have HR1 := Lib.hid (RNew_bad node nodes 5 hk w2)
      clear hb2 HGR hk
      go_wp2_with fail
      refine HN1.out.mono ?_
      rintro e w3 ⟨rfl, rfl⟩
      go_wp2_with fail
      refine HR1.out.mono ?_
      rintro e w4 ⟨rfl, rfl⟩
      go_wp2_with fail
      go_returns
      exact ⟨rfl, HB2.out⟩
    | true =>
      have HK := Lib.hid hk
      clear hk
      go_enter Try.func4, Try.ntmps4
      go_wp2_with fail
      refine HA.out.mono ?_
      rintro e w1 ⟨rfl, hb1⟩
      have HB1 := Lib.hid hb1
      clear hb1 HA
      go_wp2_with fail
      refine (HGR.out w1 HB1.out).mono ?_
      rintro e w2 ⟨rfl, hb2⟩
      have HB2 := Lib.hid (HB1.out.trans (hb2.mono HB1.out.size))
      have HN1 := Lib.hid (New_good node nodes 5 HK.out w2)
      clear hb2 HGR
      go_wp2_with fail
      refine HN1.out.mono ?_
      rintro e w3 ⟨sb, FA, rfl, hsat, hb3⟩
      have HSAT := Lib.hid hsat
      have HB3 := Lib.hid hb3
      have HR1 := Lib.hid (RNew_good node nodes 5 HK.out w3)
      clear hsat hb3 HN1
      go_wp2_with fail
      refine HR1.out.mono ?_
      rintro e w4 ⟨rb, FB, rfl, hrat, hb4⟩
      obtain ⟨Bs, hBs⟩ : ∃ b, w2.heap.size = b := ⟨_, rfl⟩
      have hpb : Pb w Bs sb rb w4 (newS node nodes 5) (newS node nodes 5) FA FB := by
        have h3 := HSAT.out
        have hsz := HB3.out.size
        have hsz4 := hb4.size
        rw [hBs] at h3 hsz
        refine ⟨⟨h3.later hb4, hrat.base hsz, fun k e e2 => ?_⟩, (HB2.out.trans (HB3.out.mono HB2.out.size)).trans (hb4.mono (Nat.le_trans HB2.out.size HB3.out.size)), by rw [← hBs]; exact HB2.out.size, by omega⟩
        have h5 := h3.lt k e
        have h6 := hrat.low k e2
        omega
      have hpq : Pq (newS node nodes 5) 0 := ⟨newS_ok HK.out _ (by omega), newS_lone node nodes 5, newS_near node nodes 5, fun p hp => by
        rw [List.eq_of_mem_replicate hp]
        exact Nat.le_refl _⟩
      have HPB := Lib.hid hpb
      have HPQ := Lib.hid hpq
      clear hrat hb4 hpb hpq HR1 HSAT hBs
      go_wp2_with fail
      go_loopw [55] (fun i wr => ∃ (k : Nat) (S : Sm) (FA FB : Nat → Prop), k ≤ n ∧ i = .int .i64 (k : Int) ∧ Hid (Pq S k) ∧ Hid (Pb w Bs sb rb wr S S FA FB)) (fun i _ => n - (intOf i).toNat)
      case atStart => exact ⟨0, _, FA, FB, Nat.zero_le _, rfl, HPQ, HPB⟩
      case round =>
        clear HPQ HPB FA FB
        obtain ⟨k, S, FA, FB, hkn, rfl, HPQ, HPB⟩ := hrel
        by_cases hlt : k < n
        · have hks : k < os.length := by rw [HN.out]; exact hlt
          have hops := HOS.out.later HPB.out.bel
          obtain ⟨g, off, rfl, hr, hok⟩ := hops.at hks
          obtain ⟨o, ho⟩ : ∃ o, os[k] = o := ⟨_, rfl⟩
          have hfit := HFT.out _ (List.getElem_mem hks)
          rw [ho] at hr hok hfit
          have x0 : wr.cell? ⟨g, off + k * 8, none⟩ = _ := hr 0 _ rfl
          have x1 := hr 1 _ rfl
          have x2 := hr 2 _ rfl
          have x3 := hr 3 _ rfl
          have x4 := hr 4 _ rfl
          have x5 := hr 5 _ rfl
          have x6 := hr 6 _ rfl
          have x7 := hr 7 _ rfl
          have hok0 := (HOS.out.2 o (by rw [← ho]; exact List.getElem_mem hks))
          obtain ⟨wo, hwo⟩ : ∃ W, W = wr.alloc (.cells #[.int .i64 o.k, .int .i64 o.n, .slice o.A o.ss.length o.c, .int .i64 o.e.kind, .int .i64 o.e.epoch, .int .i64 o.e.peer, .int .i64 o.e.seq, .string o.e.pay] 46) := ⟨_, rfl⟩
          have hbo : Below wr.heap.size wr wo := by rw [hwo]; exact below_alloc _ _
          have hco : Cells wo wr.heap.size 46 o.vals := by rw [hwo]; exact cells_new _ _ _ _ rfl
          have hnA : ¬ FA wr.heap.size := fun e => Nat.lt_irrefl _ (HPB.out.both.code.lt _ e)
          have hnB : ¬ FB wr.heap.size := fun e => Nat.lt_irrefl _ (HPB.out.both.doc.lt _ e)
          obtain ⟨ob, hob⟩ : ∃ b, wr.heap.size = b := ⟨_, rfl⟩
          rw [hob] at hco hnA hnB
          have HPO := Lib.hid (HPB.out.later hbo)
          have HCO := Lib.hid hco
          have HNF := Lib.hid (And.intro hnA hnB)
          have HOK := Lib.hid hok0
          have HFO := Lib.hid hfit
          clear hops hr hok hok0 hfit hbo hco hnA hnB ho hks HPB
          obtain ⟨sl, hsl⟩ : ∃ m, o.ss.length = m := ⟨_, rfl⟩
          have HSL := Lib.hid hsl
          clear hsl
          go_upto_block 2 with fail
          rw [← hwo]
          clear hwo x0 x1 x2 x3 x4 x5 x6 x7
          go_cut [12, 13, 14, 15, 16, 17, 18, 19, 20, 21, 22, 23] from 61 to 171 (fun a b _ _ _ _ _ _ _ _ _ _ wx => ∃ (S1 : Sm) (FA1 FB1 : Nat → Prop) (l : List Ot) (G Q : Option Addr) (gc qc ln : Nat), a = .slice G ln gc ∧ b = .slice Q ln qc ∧ Hid (l.length = ln) ∧ Hid (Aft w Bs sb rb ob o.vals (k + 1) wx S1 FA1 FB1 l G Q))
          case first =>
            by_cases hop : o.k = 0
            · obtain ⟨l, er, S1, hR⟩ : ∃ l er S1, sendM S o.n o.ss = (l, er, S1) := ⟨_, _, _, rfl⟩
              have hss80 : o.ss.length ≤ 80 := by
                have := HFO.out
                unfold fitO at this
                rw [Bool.and_eq_true, Bool.and_eq_true, decide_eq_true_eq] at this
                exact this.1.1
              have hfew : l.length ≤ 600 := by
                have := sendM_few (S := S) o.n o.ss
                rw [hR] at this
                have : l.length ≤ o.ss.length := this
                omega
              have hpq2 : Pq S1 (k + 1) := by
                have := HPQ.out.send o.n hss80
                rw [hR] at this
                exact this
              have hcs := Send_any HPO.out.both.code HPQ.out.ok (by omega) HPO.out.siz o.n o.A o.ss o.c (HOK.out.texts.later HPO.out.bel) (fun ad e e0 e2 => by
                have h1 := strs_low HOK.out.texts e e0
                have h2 := HPO.out.both.code.low _ e2
                have h3 := HPO.out.low
                omega) (by omega)
              rw [hR] at hcs
              have HCS := Lib.hid hcs
              have HRS : Hid (∀ wq FA2, Pb w Bs sb rb wq S1 S FA2 FB → Calls Try.prog 19 #[.pointer (some ⟨rb, 0, none⟩), .int .i64 o.n, .slice o.A o.ss.length o.c] wq (SndEnds Bs rb FB wq (l, er, S1))) := Lib.hid fun wq FA2 hp => by
                rw [← hR]
                exact RSend_any hp.both.doc HPQ.out.ok (by omega) HPQ.out.near hp.siz o.n o.A o.ss o.c (HOK.out.texts.later hp.bel) (fun ad e e0 => by
                  have h1 := strs_low HOK.out.texts e e0
                  have h3 := hp.low
                  omega) (by omega)
              have HPQ2 := Lib.hid hpq2
              have HFEW := Lib.hid hfew
              have k0 := HCO.out.cell (j := 0) rfl
              have k1 := HCO.out.cell (j := 1) rfl
              have k2 := HCO.out.cell (j := 2) rfl
              rw [HSL.out] at HCS HRS k2
              clear hR hss80 hfew hpq2 hcs
              have hk0 : (o.k == 0) = true := by simpa using hop
              clear hop
              go_wp2_with fail
              refine HCS.out.mono ?_
              rintro r w1b ⟨V, vn, vc, FA1, rfl, hrow, hst, hvF⟩
              obtain ⟨hvn, hvs⟩ := OwnG.sl fit_ot hrow
              have hp1 := HPO.out.stepS hst
              have hnA1 : ¬ FA1 ob := fun e => by
                rcases hst.new ob e with e2 | e2
                · exact HNF.out.1 e2
                · have := HCO.out.lt
                  omega
              have hc1 := cells_only HCO.out hst.only HNF.out.1
              have k1b := hc1.cell (j := 1) rfl
              have k2b := hc1.cell (j := 2) rfl
              rw [HSL.out] at k2b
              have HR2 := Lib.hid (HRS.out w1b FA1 hp1)
              have HP1 := Lib.hid hp1
              have HC1 := Lib.hid hc1
              have HRW := Lib.hid hrow
              have HNA := Lib.hid hnA1
              have HVN := Lib.hid hvn
              have HFBL : Hid (∀ q, FB q → q < wo.heap.size) := Lib.hid HPO.out.both.doc.lt
              clear hrow hst hvF hvs hp1 hnA1 hc1 hvn HCS HRS
              go_wp2_with fail
              refine HR2.out.mono ?_
              rintro r w2b ⟨Q, qc, FB1, rfl, hqrow, hrst, hqF⟩
              have hp2 := HP1.out.stepR hrst
              have hnB1 : ¬ FB1 ob := fun e => by
                rcases hrst.new ob e with e2 | e2
                · exact HNF.out.2 e2
                · have := HC1.out.lt
                  omega
              have hc2 := cells_only HC1.out hrst.only HNF.out.2
              have hrw2 := row_stays HRW.out HFBL.out hrst.only
              have hvs2 := (OwnG.sl fit_ot hrw2).2
              have hqs2 := (OwnG.sl fit_ot hqrow).2
              have hpl := plain_any l V vc w2b hvs2 (by have := HFEW.out; omega)
              obtain ⟨ln, hln⟩ : ∃ m, l.length = m := ⟨_, rfl⟩
              rw [hln] at hpl
              have HLN := Lib.hid hln
              have HPL := Lib.hid hpl
              have HP2 := Lib.hid hp2
              have HC2 := Lib.hid hc2
              have HQR := Lib.hid hqs2
              have HNF2 := Lib.hid (And.intro HNA.out hnB1)
              have hvn2 := HVN.out
              rw [hln] at hvn2
              subst hvn2
              rw [show (l).length = vn from hln]
              clear hqrow hrst hqF hp2 hnB1 hc2 hrw2 hvs2 hqs2 hpl hln
              go_wp2_with fail
              refine HPL.out.mono ?_
              rintro r w3 ⟨G, gn, gc, rfl, hrow3, hb3⟩
              obtain ⟨hgn, hgs⟩ := OwnG.sl fit_ot hrow3
              rw [HLN.out] at hgn
              subst hgn
              have HAF : Hid (Aft w Bs sb rb ob o.vals (k + 1) w3 S1 FA1 FB1 l G Q) := Lib.hid ⟨HPQ2.out, HP2.out.later hb3, hgs, HQR.out.later hb3, HFEW.out, HC2.out.later hb3, HNF2.out.1, HNF2.out.2⟩
              clear hrow3 hb3 hgs HPL HP2 HC2 HQR
              go_wp2_with fail
              go_meet
              case rel => exact ⟨S1, FA1, FB1, l, G, Q, gc, qc, gn, rfl, rfl, HLN, HAF⟩
            · by_cases hop1 : o.k = 1
              · obtain ⟨py, l, er, S1, hR⟩ : ∃ py l er S1, takeM S o.n o.e = (py, l, er, S1) := ⟨_, _, _, _, rfl⟩
                have hfew : l.length ≤ 600 := by
                  have := takeM_few HPQ.out.ok (by omega) o.n o.e
                  rw [hR] at this
                  have : l.length ≤ 40 := this
                  omega
                have hpq2 : Pq S1 (k + 1) := by
                  have := HPQ.out.take o.n o.e
                  rw [hR] at this
                  exact this
                have hcs := Take_any HPO.out.both.code HPQ.out.ok HPO.out.siz o.n o.e HOK.out.pay
                rw [hR] at hcs
                have HCS := Lib.hid hcs
                have HRS : Hid (∀ wq FA2, Pb w Bs sb rb wq S1 S FA2 FB → Calls Try.prog 22 #[.pointer (some ⟨rb, 0, none⟩), .int .i64 o.n, o.e.val] wq (TkEnds Bs rb FB wq (py, l, er, S1))) := Lib.hid fun wq FA2 hp => by
                  rw [← hR]
                  exact RTake_any hp.both.doc HPQ.out.ok hp.siz (fun p hq => Nat.le_trans (HPQ.out.len p hq) (by omega)) o.n o.e HOK.out.pay
                have HPQ2 := Lib.hid hpq2
                have HFEW := Lib.hid hfew
                have k0 := HCO.out.cell (j := 0) rfl
                have k1 := HCO.out.cell (j := 1) rfl
                have k3 := HCO.out.cell (j := 3) rfl
                have k4 := HCO.out.cell (j := 4) rfl
                have k5 := HCO.out.cell (j := 5) rfl
                have k6 := HCO.out.cell (j := 6) rfl
                have k7 := HCO.out.cell (j := 7) rfl
                clear hR hfew hpq2 hcs
                have hk0 : (o.k == 0) = false := by simpa using hop
                have hk1 : (o.k == 1) = true := by simpa using hop1
                clear hop hop1
                go_wp2_with fail
                refine HCS.out.mono ?_
                rintro r w1b ⟨V, vn, vc, FA1, rfl, hrow, hst, hvF⟩
                obtain ⟨hvn, hvs⟩ := OwnG.sl fit_ot hrow
                have hp1 := HPO.out.stepS hst
                have hnA1 : ¬ FA1 ob := fun e => by
                  rcases hst.new ob e with e2 | e2
                  · exact HNF.out.1 e2
                  · have := HCO.out.lt
                    omega
                have hc1 := cells_only HCO.out hst.only HNF.out.1
                have j1 := hc1.cell (j := 1) rfl
                have j3 := hc1.cell (j := 3) rfl
                have j4 := hc1.cell (j := 4) rfl
                have j5 := hc1.cell (j := 5) rfl
                have j6 := hc1.cell (j := 6) rfl
                have j7 := hc1.cell (j := 7) rfl
                have HR2 := Lib.hid (HRS.out w1b FA1 hp1)
                have HP1 := Lib.hid hp1
                have HC1 := Lib.hid hc1
                have HRW := Lib.hid hrow
                have HNA := Lib.hid hnA1
                have HVN := Lib.hid hvn
                have HFBL : Hid (∀ q, FB q → q < wo.heap.size) := Lib.hid HPO.out.both.doc.lt
                clear hrow hst hvF hvs hp1 hnA1 hc1 hvn HCS HRS k3 k4 k5 k6 k7
                go_wp2_with fail
                refine HR2.out.mono ?_
                rintro r w2b ⟨Q, qc, FB1, rfl, hqrow, hrst, hqF⟩
                have hp2 := HP1.out.stepR hrst
                have hnB1 : ¬ FB1 ob := fun e => by
                  rcases hrst.new ob e with e2 | e2
                  · exact HNF.out.2 e2
                  · have := HC1.out.lt
                    omega
                have hc2 := cells_only HC1.out hrst.only HNF.out.2
                have hrw2 := row_stays HRW.out HFBL.out hrst.only
                have hvs2 := (OwnG.sl fit_ot hrw2).2
                have hqs2 := (OwnG.sl fit_ot hqrow).2
                have hpl := plain_any l V vc w2b hvs2 (by have := HFEW.out; omega)
                obtain ⟨ln, hln⟩ : ∃ m, l.length = m := ⟨_, rfl⟩
                rw [hln] at hpl
                have HLN := Lib.hid hln
                have HPL := Lib.hid hpl
                have HP2 := Lib.hid hp2
                have HC2 := Lib.hid hc2
                have HQR := Lib.hid hqs2
                have HNF2 := Lib.hid (And.intro HNA.out hnB1)
                have hvn2 := HVN.out
                rw [hln] at hvn2
                subst hvn2
                rw [show (l).length = vn from hln]
                clear hqrow hrst hqF hp2 hnB1 hc2 hrw2 hvs2 hqs2 hpl hln
                go_wp2_with fail
                refine HPL.out.mono ?_
                rintro r w3 ⟨G, gn, gc, rfl, hrow3, hb3⟩
                obtain ⟨hgn, hgs⟩ := OwnG.sl fit_ot hrow3
                rw [HLN.out] at hgn
                subst hgn
                have HAF : Hid (Aft w Bs sb rb ob o.vals (k + 1) w3 S1 FA1 FB1 l G Q) := Lib.hid ⟨HPQ2.out, HP2.out.later hb3, hgs, HQR.out.later hb3, HFEW.out, HC2.out.later hb3, HNF2.out.1, HNF2.out.2⟩
                clear hrow3 hb3 hgs HPL HP2 HC2 HQR
                go_wp2_with fail
                go_meet
                case rel => exact ⟨S1, FA1, FB1, l, G, Q, gc, qc, gn, rfl, rfl, HLN, HAF⟩
              · by_cases hop2 : o.k = 2
                · obtain ⟨l, S1, hR⟩ : ∃ l S1, tickM S = (l, S1) := ⟨_, _, rfl⟩
                  have hfew : l.length ≤ 600 := by
                    have := tickM_few HPQ.out.ok
                    rw [hR] at this
                    have : l.length ≤ 512 := this
                    omega
                  have hpq2 : Pq S1 (k + 1) := by
                    have := HPQ.out.tick
                    rw [hR] at this
                    exact this
                  have hcs := Tick_any HPO.out.both.code HPQ.out.ok HPO.out.siz (fun i hi e => HPQ.out.lone i _ (List.getElem?_eq_getElem hi) e)
                  rw [hR] at hcs
                  have HCS := Lib.hid hcs
                  have HRS : Hid (∀ wq FA2, Pb w Bs sb rb wq S1 S FA2 FB → Calls Try.prog 24 #[.pointer (some ⟨rb, 0, none⟩)] wq fun r w' => ∃ V vn vc F', r = .returned (.slice V vn vc) ∧ OwnG 121 6 Ot.vals wq.heap.size w' (.slice V vn vc) l ∧ RStep Bs FB wq rb S1 F' w' ∧ ∀ k, blk V = some k → ¬ F' k) := Lib.hid fun wq FA2 hp => by
                    have := RTick_any hp.both.doc HPQ.out.ok hp.siz
                    rw [hR] at this
                    exact this
                  have HPQ2 := Lib.hid hpq2
                  have HFEW := Lib.hid hfew
                  have k0 := HCO.out.cell (j := 0) rfl
                  clear hR hfew hpq2 hcs
                  have hk0 : (o.k == 0) = false := by simpa using hop
                  have hk1 : (o.k == 1) = false := by simpa using hop1
                  have hk2 : (o.k == 2) = true := by simpa using hop2
                  clear hop hop1 hop2
                  go_wp2_with fail
                  refine HCS.out.mono ?_
                  rintro r w1b ⟨V, vn, vc, FA1, rfl, hrow, hst, hvF⟩
                  obtain ⟨hvn, hvs⟩ := OwnG.sl fit_ot hrow
                  have hp1 := HPO.out.stepS hst
                  have hnA1 : ¬ FA1 ob := fun e => by
                    rcases hst.new ob e with e2 | e2
                    · exact HNF.out.1 e2
                    · have := HCO.out.lt
                      omega
                  have hc1 := cells_only HCO.out hst.only HNF.out.1
                  have hpl := plain_any l V vc w1b hvs (by have := HFEW.out; omega)
                  obtain ⟨ln, hln⟩ : ∃ m, l.length = m := ⟨_, rfl⟩
                  rw [hln] at hpl hvn
                  have HLN := Lib.hid hln
                  have HPL := Lib.hid hpl
                  have HP1 := Lib.hid hp1
                  have HC1 := Lib.hid hc1
                  have HNA := Lib.hid hnA1
                  have HFBL : Hid (∀ q, FB q → q < w1b.heap.size) := Lib.hid fun q e => Nat.lt_of_lt_of_le (HPO.out.both.doc.lt q e) hst.only.size
                  subst hvn
                  clear hrow hst hvF hvs hp1 hnA1 hc1 HCS hpl hln
                  go_wp2_with fail
                  refine HPL.out.mono ?_
                  rintro r w3 ⟨G, gn, gc, rfl, hrow3, hb3⟩
                  have hp3 := HP1.out.later hb3
                  have HP3 := Lib.hid hp3
                  have HR2 := Lib.hid (HRS.out w3 FA1 hp3)
                  have HG3 := Lib.hid hrow3
                  have HC3 := Lib.hid (HC1.out.later hb3)
                  clear hp3 hrow3 hb3 HPL HRS HP1 HC1
                  go_wp2_with fail
                  refine HR2.out.mono ?_
                  rintro r w2b ⟨Q, qn, qc, FB1, rfl, hqrow, hrst, hqF⟩
                  have hp2 := HP3.out.stepR hrst
                  have hnB1 : ¬ FB1 ob := fun e => by
                    rcases hrst.new ob e with e2 | e2
                    · exact HNF.out.2 e2
                    · have := HC3.out.lt
                      omega
                  have hc2 := cells_only HC3.out hrst.only HNF.out.2
                  obtain ⟨hgn, hgs⟩ := OwnG.sl fit_ot (row_stays HG3.out HFBL.out hrst.only)
                  obtain ⟨hqn, hqs⟩ := OwnG.sl fit_ot hqrow
                  have HAF : Hid (Aft w Bs sb rb ob o.vals (k + 1) w2b S1 FA1 FB1 l G Q) := Lib.hid ⟨HPQ2.out, hp2, hgs, hqs, HFEW.out, hc2, HNA.out, hnB1⟩
                  rw [HLN.out] at hgn hqn
                  subst hgn
                  subst hqn
                  clear hqrow hrst hqF hp2 hnB1 hc2 hgs hqs HG3 HC3 HP3 HR2
                  go_wp2_with fail
                  go_meet
                  case rel => exact ⟨S1, FA1, FB1, l, G, Q, gc, qc, qn, rfl, rfl, HLN, HAF⟩
                · have k0 := HCO.out.cell (j := 0) rfl
                  have hk0 : (o.k == 0) = false := by simpa using hop
                  have hk1 : (o.k == 1) = false := by simpa using hop1
                  have hk2 : (o.k == 2) = false := by simpa using hop2
                  have HAF : Hid (Aft w Bs sb rb ob o.vals (k + 1) wo S FA FB [] none none) := Lib.hid ⟨HPQ.out.skip, HPO.out, sl_nil _ _ _, sl_nil _ _ _, Nat.zero_le _, HCO.out, HNF.out.1, HNF.out.2⟩
                  clear hop hop1 hop2
                  go_wp2_with fail
                  go_meet
                  case rel => exact ⟨S, FA, FB, [], none, none, 0, 0, 0, rfl, rfl, Lib.hid rfl, HAF⟩
          case rest =>
            obtain ⟨S1, FA1, FB1, l, G, Q, gc, qc, ln, rfl, rfl, HLN, HAF⟩ := hcut
            obtain ⟨we, hwe⟩ : ∃ W, W = wc := ⟨_, rfl⟩
            subst hwe
            obtain ⟨pb, As, cs, hsx⟩ := HAF.out.pb.both.code
            obtain ⟨qb, qcap, RA, rcs, RD, rds, hrx⟩ := HAF.out.pb.both.doc
            have HSX := Lib.hid hsx
            have HRX := Lib.hid hrx
            have HO := Lib.hid (ROther_any hrx o.n)
            have k1 := HAF.out.box.cell (j := 1) rfl
            have hn16 := HAF.out.pq.ok.n2
            have HSM : Hid (∀ wq, Below we.heap.size we wq → Calls Try.prog 26 #[.slice G ln gc, .slice Q ln qc] wq fun e w' => e = .returned (.bool true) ∧ Below wq.heap.size wq w') := Lib.hid fun wq hb => by
              rw [← HLN.out]
              exact RSame_eq l G Q gc qc wq (HAF.out.gs.later hb) (HAF.out.qs.later hb) (by have := HAF.out.few; omega)
            have HN16 := Lib.hid hn16
            have HBX : Hid (∀ wq, Below we.heap.size we wq → wq.cell? ⟨ob, 1, none⟩ = some (.int .i64 o.n)) := Lib.hid fun wq hb => (HAF.out.box.later hb).cell (j := 1) rfl
            clear hsx hrx hn16
            cases hot : other S1 o.n with
            | false =>
              rw [hot] at HO
              have HHD : Hid (∀ wq, Below we.heap.size we wq → Calls Try.prog 27 #[.pointer (some ⟨sb, 0, none⟩), .int .i64 o.n] wq fun e w' => e = .returned (.int .i64 0) ∧ w' = wq) := Lib.hid fun wq hb => Held_none (HSX.out.later hb) o.n hot
              have HKN : Hid (∀ wq, Below we.heap.size we wq → Calls Try.prog 28 #[.pointer (some ⟨sb, 0, none⟩), .int .i64 o.n] wq fun e w' => e = .returned (.int .i64 0) ∧ w' = wq) := Lib.hid fun wq hb => Known_none (HSX.out.later hb) o.n hot
              clear hot
              go_wp2_with fail
              refine HO.out.mono ?_
              rintro r w5 ⟨rfl, rfl⟩
              clear HO
              go_wp2_with fail
              refine (HSM.out w5 (Below.refl _ _)).mono ?_
              rintro r w6 ⟨rfl, hb6⟩
              have k1b := HBX.out w6 hb6
              have HB6 := Lib.hid hb6
              clear hb6
              go_wp2_with fail
              refine (HHD.out w6 HB6.out).mono ?_
              rintro r w7 ⟨rfl, rfl⟩
              go_wp2_with fail
              refine (HKN.out w7 HB6.out).mono ?_
              rintro r w8 ⟨rfl, rfl⟩
              have HPE := Lib.hid (HAF.out.pb.later HB6.out)
              have HPQE := Lib.hid HAF.out.pq
              go_wp2_with fail
              go_roundw
              case rel => exact ⟨k + 1, S1, FA1, FB1, by omega, by go_num, HPQE, HPE⟩
              case measure => simp [intOf]; omega
            | true =>
              rw [hot] at HO
              obtain ⟨i, hi, hin, hnode⟩ := other_at hot
              have HI := Lib.hid hi
              obtain ⟨q, hq⟩ : ∃ q, S1.peers[i]'hi = q := ⟨_, rfl⟩
              have HHD : Hid (∀ wq, Below we.heap.size we wq → Calls Try.prog 27 #[.pointer (some ⟨sb, 0, none⟩), .int .i64 o.n] wq fun e w' => e = .returned (.int .i64 (q.held.length : Int)) ∧ w' = wq) := Lib.hid fun wq hb => by
                rw [← hin, ← hq]
                exact Held_some (HSX.out.later hb) HN16.out i hi hnode
              have HKN : Hid (∀ wq, Below we.heap.size we wq → Calls Try.prog 28 #[.pointer (some ⟨sb, 0, none⟩), .int .i64 o.n] wq fun e w' => e = .returned (.int .i64 q.known) ∧ w' = wq) := Lib.hid fun wq hb => by
                rw [← hin, ← hq]
                exact Known_some (HSX.out.later hb) HN16.out i hi hnode
              have hpc := (HRX.out.peer i hi).1
              rw [hq] at hpc
              have z1 := hpc.cell (j := 1) rfl
              have z3 := hpc.cell (j := 3) rfl
              have c2 := HRX.out.cel.cell (j := 2) rfl
              obtain ⟨np, hnp⟩ : ∃ m, S1.peers.length = m := ⟨_, rfl⟩
              rw [hnp] at c2
              have hin2 : o.n = (i : Int) + 1 := hin.symm
              have him : i < np := by rw [← hnp]; exact hi
              have hi16 : i < 16 := by have := HN16.out; omega
              obtain ⟨on, hon⟩ : ∃ x, o.n = x := ⟨_, rfl⟩
              rw [hon] at k1 HO HHD HKN HBX hin2
              subst hin2
              have hiw : IntKind.i64.wrap ((i : Int) + 1 - 1) = (i : Int) := by rw [IntKind.wrap_i64]; omega
              obtain ⟨ql, hql⟩ : ∃ m, q.held.length = m := ⟨_, rfl⟩
              rw [hql] at z3 HHD
              clear hot hin hnode hq hpc hnp hon hql hi
              go_wp2_with fail
              refine HO.out.mono ?_
              rintro r w5 ⟨rfl, rfl⟩
              clear HO
              go_upto_region 32 with (fail)
              go_quiet (fail)
              obtain ⟨w6, hw6⟩ : ∃ W, W = w5.drewN nq := ⟨_, rfl⟩
              have hb6 : Below w5.heap.size w5 w6 := by rw [hw6]; exact below_drewN (Below.refl _ _) _
              rw [← hw6]
              have HB6 := Lib.hid hb6
              clear hw6 hb6 z1 z3 c2
              go_wp2_with fail
              refine (HSM.out w6 HB6.out).mono ?_
              rintro r w7 ⟨rfl, hb7⟩
              have HB7 := Lib.hid (HB6.out.trans (hb7.mono HB6.out.size))
              have k1b := HBX.out w7 HB7.out
              clear hb7
              go_wp2_with fail
              refine (HHD.out w7 HB7.out).mono ?_
              rintro r w8 ⟨rfl, rfl⟩
              go_wp2_with fail
              refine (HKN.out w8 HB7.out).mono ?_
              rintro r w9 ⟨rfl, rfl⟩
              have HPE := Lib.hid (HAF.out.pb.later HB7.out)
              have HPQE := Lib.hid HAF.out.pq
              go_wp2_with fail
              go_roundw
              case rel => exact ⟨k + 1, S1, FA1, FB1, by omega, by go_num, HPQE, HPE⟩
              case measure => simp [intOf]; omega
        · obtain rfl : k = n := by omega
          go_wp2_with fail
          go_returns
          exact ⟨rfl, HPB.out.bel⟩
theorem opened {H : Type} {enc : TypeId × Value → H} {W : World} {base : Nat} {gs : List (DataW H)} (v0 : Value) (d0 : DataW H) (p0 : List MemPlace) (v1 : Value) (d1 : DataW H) (p1 : List MemPlace) (v2 : Value) (d2 : DataW H) (p2 : List MemPlace)
    (o0 : Value.okWide Try.prog W .any base 3 v0) (_t0 : DataW.Trod enc Try.prog W 0 (fun _ => true) true 3 v0 d0 p0)
    (o1 : Value.okWide Try.prog W .any base 3 v1) (_t1 : DataW.Trod enc Try.prog W 0 (fun _ => true) true 3 v1 d1 p1)
    (o2 : Value.okWide Try.prog W .any base 37 v2) (t2 : DataW.Trod enc Try.prog W 0 (fun _ => true) true 37 v2 d2 p2)
    (hsz : (DataW.weightsEach Try.prog ([3, 3, 37] ++ []) ([d0, d1, d2] ++ gs)).all (· ≤ reachBytes) = true) :
    Calls Try.prog 4 #[v0, v1, v2] W fun e W' => e = .returned (.bool true) ∧ Below W.heap.size W W' := by
  obtain ⟨x, rfl⟩ := okWide_int Try.underlying3 o0
  obtain ⟨y, rfl⟩ := okWide_int Try.underlying3 o1
  obtain ⟨a0, len, cap, rfl⟩ := okWide_slice Try.underlying37 o2
  obtain ⟨A, os, cap', e, h1, h2, _⟩ := came_ops (came_of t2 (Base.small_of hsz (j := 2) rfl rfl) (by simp [Value.cells]))
  rw [e]
  exact walk x y A os cap' W h1 h2

theorem contract (H : Type) (enc : TypeId × Value → H) (W : World) (base : Nat) (args : Array Value) (ds gs : List (DataW H)) (before : List MemPlace)
    (hval : ∀ (j : Nat) t v, Try.f4.params[j]? = some t → args[j]? = some v → Value.okWide Try.prog W .any base t v)
    (hW : DataW.Whole enc Try.prog Try.f4.params.toList Rows.sessionPlaysSpec.vars false W args.toList ds gs before)
    (hsz : (DataW.weightsEach Try.prog (Try.f4.params.toList ++ []) (ds ++ gs)).all (· ≤ reachBytes) = true) :
    Calls Try.prog 4 args W fun e W' => ∃ v, e = .returned v ∧ Rows.sessionPlaysSpec.post enc Try.prog Try.f4 false true false false W args v W' := by
  have hW0 := hW
  obtain ⟨p, q, hA0, hV, rfl, _, _⟩ := hW
  have hA : DataW.TrodAll enc Try.prog W 0 (fun _ => true) true Try.f4.params.toList args.toList ds p := hA0
  rw [Try.params4] at hA hval hsz
  obtain ⟨v0, vs0, d0, ds0, p0, q0, hargs, rfl, rfl, h0, r0⟩ := trodAll_cons hA
  obtain ⟨v1, vs1, d1, ds1, p1, q1, rfl, rfl, rfl, h1, r1⟩ := trodAll_cons r0
  obtain ⟨v2, vs2, d2, ds2, p2, q2, rfl, rfl, rfl, h2, r2⟩ := trodAll_cons r1
  obtain ⟨rfl, rfl, rfl⟩ := trodAll_nil r2
  obtain rfl : args = #[v0, v1, v2] := by cases args; simp_all
  refine (opened v0 d0 p0 v1 d1 p1 v2 d2 p2 (hval 0 3 v0 rfl rfl) h0 (hval 1 3 v1 rfl rfl) h1 (hval 2 37 v2 rfl rfl) h2 hsz).mono fun e W' ⟨he, hb⟩ => ⟨_, he, ?_⟩
  exact Base.law_post (tb := 4) Base.laidOut (by kernel_rfl) rfl Try.underlying4 rfl (fun l hl => by
    rw [Try.params4] at hl
    match l, hl with
    | [_, _, _], _ => rfl) (by rw [Try.params4]; rfl) hW0 hb

theorem laid_met (os : Os) : laidMet Try.prog Rows.sessionPlaysRow.laid ((Base.plainWorld os).forCall (fun _ _ => 0) ⟨#[], #[.int .i64 0, .int .i64 0, .slice none 0 0], []⟩).memory := laidMet_nil _ _
theorem reads (os : Os) {H : Type} (enc : TypeId × Value → H) : ∃ places, DataW.whole enc Try.prog ((Base.plainWorld os).forCall (fun _ _ => 0) ⟨#[], #[.int .i64 0, .int .i64 0, .slice none 0 0], []⟩).memory Try.f4.params.toList Rows.sessionPlaysSpec.vars false (#[.int .i64 0, .int .i64 0, .slice none 0 0] : Array Value).toList 8 = some ([.lit (.int .i64 0), .lit (.int .i64 0), .nil], [], places) :=
  ⟨[], by kernel_rfl⟩

set_option maxRecDepth 100000 in
theorem lifted (os : Os) (started : os.Started) (H : Type) (enc : TypeId × Value → H) (F : Stop.Interp) :
    ReturnsInHanded {} Try.checked os 4 .any ((OpenSpec.ofChange Rows.sessionPlaysSpec).preRow enc Try.prog Try.f4 Rows.sessionPlaysRow.domain false Rows.sessionPlaysRow.laid) (((OpenSpec.ofChange Rows.sessionPlaysSpec).at F).post enc Try.prog Try.f4 false true false false) := by
  obtain ⟨places, hx⟩ := reads os enc
  refine returnsInHanded_of_row (C := Try.checked) (s := OpenSpec.ofChange Rows.sessionPlaysSpec) Base.own started (by kernel_rfl) Try.func4
    (witness_row_at (enc := enc) (C := Try.checked) false (Base.plainWorld os) #[.int .i64 0, .int .i64 0, .slice none 0 0] rfl (by kernel_rfl) (by kernel_rfl) (by kernel_rfl)
      (OpenSpec.preRow_of_cond 8 hx (by kernel_rfl) (fun k hk => by cases hk) (by kernel_rfl) (laid_met os))) ?_
  intro W base args ds gs before hval hW _ _ hsz _ _ _
  exact contract H enc W base args ds gs before hval hW hsz

theorem said : Rows.SessionPlaysSaid :=
  OpenClaim.holds_of_cond 4 Try.f4 rfl rfl rfl rfl rfl rfl rfl ⟨rfl, rfl, rfl, rfl, rfl⟩ rfl rfl rfl rfl rfl (by kernel_rfl) Try.func4 (by kernel_rfl)
    (of_decide_eq_true (by kernel_rfl)) (by unfold Func.isWrapper; rw [if_neg (of_decide_eq_false (by kernel_rfl))]; exact ⟨rfl, rfl⟩)
    (fun os started H enc _ F => by rw [OpenClaim.pre_eq_preRow]; exact lifted os started H enc F)
#print axioms said
end Go.Proofs.Ytjfejfhdohpfbaa.SessionPlays
