/-
  Layer 13: whatever numbers are seen, in any order, a window tells what the document says. Conditions: none.
-/
import Derived.Test.YtplaacgahloooaaWinLaw
import Derived.Test.YtplaacgahloooaaWinRef
import Derived.Lib.LaidTab
import Derived.Deep.DeepHandedRow
namespace Go.Proofs.Ytplaacgahloooaa.WindowPlays
set_option maxRecDepth 100000
open Go.ChangeShapes Go.WideShapes Go.ChangeAt Go.RowKit Go.Deep Go.Proofs.Ytplaacgahloooaa.Mem Go.Proofs.Ytplaacgahloooaa.Win

/-- Both windows have seen these numbers; below B and outside of them nothing turns. -/
structure Both (B : Nat) (w0 w : World) (b rb : Nat) (L : List Int) (A : Option Addr) (ac : Nat) : Prop where
  win : WinAt w b L
  ref : RfAt B w rb L A ac
  ok : Wok L
  far : b ≠ rb ∧ blk A ≠ some b
  bel : Below B w0 w
  low : B ≤ b
  siz : B ≤ w0.heap.size
section
variable {B b rb ac : Nat} {w0 w w' : World} {L : List Int} {A : Option Addr}
theorem Both.later (h : Both B w0 w b rb L A ac) (hb : Below w.heap.size w w') : Both B w0 w' b rb L A ac :=
  ⟨h.win.later hb, h.ref.later hb, h.ok, h.far, h.bel.trans (hb.mono (Nat.le_trans h.siz h.bel.size)), h.low, h.siz⟩
theorem Both.ints {A1 : Option Addr} {ks : List Int} (h : Both B w0 w b rb L A ac) (hk : Ints w0 A1 ks) (hB : ∀ g off, A1 = some ⟨g, off, none⟩ → ks ≠ [] → g < B) : Ints w A1 ks := fun i hi => by
  obtain ⟨g, off, e, hc⟩ := hk i hi
  exact ⟨g, off, e, (h.bel.cell (by exact hB g off e (List.ne_nil_of_length_pos (by omega)))).trans hc⟩
end
set_option maxHeartbeats 1000000 in
theorem walk (A A2 : Option Addr) (ks ss : List Int) (cap cap2 : Nat) (cl : Bool) (w : World) (h : Ints w A ks) (h2 : Ints w A2 ss) (hl : ks.length ≤ maxLen) (hl2 : ss.length ≤ maxLen) :
    Calls Try.prog 3 #[.slice A ks.length cap, .slice A2 ss.length cap2, .bool cl] w fun e w' => e = .returned (.bool true) ∧ Below w.heap.size w w' := by
  have HC := Lib.hid (awake_any w)
  obtain ⟨n, hn⟩ : ∃ n, ks.length = n := ⟨_, rfl⟩
  obtain ⟨n2, hn2⟩ : ∃ n, ss.length = n := ⟨_, rfl⟩
  have HLN := Lib.hid hn
  have HLN2 := Lib.hid hn2
  have HH := Lib.hid h
  have HH2 := Lib.hid h2
  rw [hn] at hl ⊢
  rw [hn2] at hl2 ⊢
  clear h h2 hn hn2
  by_cases hgt : 200 < n
  · have e1 : decide ((n : Int) > 200) = true := by simp; omega
    go_enter Try.func3, Try.ntmps3
    go_wp2_with fail
    refine HC.out.mono ?_
    rintro e w1 ⟨rfl, hb1⟩
    go_wp2_with fail
    go_returns
    exact ⟨rfl, hb1⟩
  have e1 : decide ((n : Int) > 200) = false := by simp; omega
  by_cases hgt2 : 200 < n2
  · have e2 : decide ((n2 : Int) > 200) = true := by simp; omega
    go_enter Try.func3, Try.ntmps3
    go_wp2_with fail
    refine HC.out.mono ?_
    rintro e w1 ⟨rfl, hb1⟩
    go_wp2_with fail
    go_returns
    exact ⟨rfl, hb1⟩
  have e2 : decide ((n2 : Int) > 200) = false := by simp; omega
  go_enter Try.func3, Try.ntmps3
  go_wp2_with fail
  refine HC.out.mono ?_
  rintro e w1 ⟨rfl, hb1⟩
  have HH1 := Lib.hid (HH.out.later hb1)
  have HH3 := Lib.hid (HH2.out.later hb1)
  have HB1 := Lib.hid hb1
  obtain ⟨wa, hwa⟩ : ∃ W, W = w1.alloc (.cells #[.int .i64 0, .int .u64 0] 26) := ⟨_, rfl⟩
  have hba : Below w1.heap.size w1 wa := by rw [hwa]; exact below_alloc _ _
  have ha : WinAt wa w1.heap.size [] := by rw [hwa]; exact WinAt.new w1
  have hsa : wa.heap.size = w1.heap.size + 1 := by rw [hwa]; exact World.size_alloc _ _
  obtain ⟨wb, hwb⟩ : ∃ W, W = wa.alloc (.cells #[.slice none 0 0] 29) := ⟨_, rfl⟩
  have hbb : Below wa.heap.size wa wb := by rw [hwb]; exact below_alloc _ _
  have hrb : RfAt w1.heap.size wb (w1.heap.size + 1) [] none 0 := by
    rw [hwb, ← hsa]
    obtain ⟨c1, c2, c3, c4⟩ := RfAt.new wa
    exact ⟨c1, OwnG.nil _ _ _ _ _, by omega, c4⟩
  have HBO : Hid (Both w1.heap.size w1 wb w1.heap.size (w1.heap.size + 1) [] none 0) := Lib.hid ⟨ha.later hbb, hrb, Wok.nil, ⟨by omega, fun e => by cases e⟩, hba.trans (hbb.mono hba.size), Nat.le_refl _, Nat.le_refl _⟩
  have HLT : Hid (∀ g off, A = some ⟨g, off, none⟩ → ks ≠ [] → g < w1.heap.size) := Lib.hid (fun g off e hne => by
    obtain ⟨b, o, e2, hc⟩ := HH1.out 0 (List.length_pos_iff.2 hne)
    rw [e] at e2
    simp only [Option.some.injEq, Addr.mk.injEq] at e2
    rw [e2.1]
    exact block_of_cell hc)
  have HLT2 : Hid (∀ g off, A2 = some ⟨g, off, none⟩ → ss ≠ [] → g < w1.heap.size) := Lib.hid (fun g off e hne => by
    obtain ⟨b, o, e2, hc⟩ := HH3.out 0 (List.length_pos_iff.2 hne)
    rw [e] at e2
    simp only [Option.some.injEq, Addr.mk.injEq] at e2
    rw [e2.1]
    exact block_of_cell hc)
  clear hb1 hba ha hbb hrb HC HH HH2
  obtain ⟨B, hB⟩ : ∃ B, w1.heap.size = B := ⟨_, rfl⟩
  have HBq := Lib.hid hB
  rw [hB] at HBO HLT HLT2 hsa
  go_upto_region 7 with (fail)
  rw [← hwa, ← hwb]
  clear hwa hwb hsa hB
  obtain ⟨rb, hrb⟩ : ∃ rb, B + 1 = rb := ⟨_, rfl⟩
  rw [hrb] at HBO ⊢
  clear hrb
  go_cut [26] from 27 to 29 (fun v wx => v = .bool cl ∧ wx = wb)
  case first =>
    go_wp2_with fail
    go_meet
    exact ⟨rfl, rfl⟩
  obtain ⟨rfl, rfl⟩ := hcut
  apply_assumption
  go_cut [14] from 27 to 29 (fun v wx => v = .bool true ∧ Hid (Both B w1 wx B rb [] none 0))
  case first =>
    cases cl with
    | false =>
      go_wp2_with fail
      go_meet
      exact ⟨rfl, HBO⟩
    | true =>
      have hi := HBO.out.ints HH1.out HLT.out
      have hs := See_any HBO.out.win Wok.nil cap hi (fun g off e hne => by have := HLT.out g off e hne; omega) (by rw [HLN.out]; omega)
      rw [HLN.out] at hs
      have HS := Lib.hid hs
      clear hi hs
      go_wp2_with fail
      refine HS.out.mono ?_
      rintro e w3 ⟨rfl, hw3, ho3⟩
      have HC3 := Lib.hid (Clear_any hw3)
      have HO3 := Lib.hid ho3
      clear hw3 ho3 HS
      go_wp2_with fail
      refine HC3.out.mono ?_
      rintro e w4 ⟨rfl, hw4, ho4⟩
      have HB4 : Hid (Both B w1 w4 B rb [] none 0) := Lib.hid (by
        have ho : Only (fun k => k = B) wc w4 := HO3.out.trans ho4 fun _ _ e => e
        have h0 := HBO.out
        exact ⟨hw4, h0.ref.only ho (fun e => h0.far.1 e.symm) (fun k e => by cases e), Wok.nil, h0.far, h0.bel.trans (ho.below (Nat.le_trans h0.siz h0.bel.size) fun k e => by omega), h0.low, h0.siz⟩)
      clear hw4 ho4 HC3 HO3
      go_wp2_with fail
      go_meet
      exact ⟨rfl, HB4⟩
  clear HBO
  obtain ⟨rfl, HBO⟩ := hcut
  have hl200 : n ≤ 200 := by omega
  have hl2002 : n2 ≤ 200 := by omega
  clear hgt hgt2
  go_wp2_with fail
  go_loopw [32] (fun i wr => ∃ (k : Nat) (L : List Int) (A1 : Option Addr) (c1 : Nat), k ≤ n ∧ i = .int .i64 (k : Int) ∧ L.length ≤ k ∧ Hid (Both B w1 wr B rb L A1 c1)) (fun i _ => n - (intOf i).toNat)
  case atStart => exact ⟨0, [], none, 0, Nat.zero_le _, rfl, Nat.zero_le _, HBO⟩
  case round =>
    clear HBO
    obtain ⟨k, L, A1, c1, hkn, rfl, hLk, HB⟩ := hrel
    by_cases hlt : k < n
    · have hkl : k < ks.length := by rw [HLN.out]; exact hlt
      obtain ⟨g, off, rfl, x0⟩ := (HB.out.ints HH1.out HLT.out) k hkl
      obtain ⟨p, hp⟩ : ∃ p, ks[k] = p := ⟨_, rfl⟩
      rw [hp] at x0
      have hBr : B ≤ wr.heap.size := Nat.le_trans HB.out.siz HB.out.bel.size
      have HRS := Lib.hid (RSee_any HB.out.ref HB.out.ok p hBr (by omega))
      obtain ⟨sb, hsb⟩ : ∃ sb, seenL L p = sb := ⟨_, rfl⟩
      rw [hsb] at HRS
      have HSB := Lib.hid hsb
      clear hp hkl hsb
      go_upto_region 14 with (fail)
      go_wp2_with fail
      refine HRS.out.mono ?_
      rintro e w2 ⟨rfl, ho2, A3, c3, hr2, hg2⟩
      have HW2 : Hid (WinAt w2 B L) := Lib.hid (HB.out.win.only ho2 (by
        rintro (e | e)
        · exact HB.out.far.1 e
        · exact HB.out.far.2 e.symm))
      have HR2 := Lib.hid hr2
      have HF2 : Hid (blk A3 ≠ some B) := Lib.hid (fun e => by
        have hlw := HB.out.win.lt
        rcases hg2 B e with e2 | e2
        · exact HB.out.far.2 e2.symm
        · omega)
      have HBE2 : Hid (Below B w1 w2) := Lib.hid (HB.out.bel.trans (ho2.below hBr fun k e => by
        rcases e with e | e
        · rw [e]; exact HB.out.ref.low
        · exact (HB.out.ref.row.lt k (by rw [own_blk]; exact e.symm)).1))
      obtain ⟨we, hwe⟩ : ∃ W, W = w2.alloc (.cells #[.int .i64 p] 3) := ⟨_, rfl⟩
      have hso := See_one HW2.out HB.out.ok p hwe
      rw [seeL_one, HSB.out] at hso
      have HSO := Lib.hid hso
      clear ho2 hr2 hg2 hso HRS
      have HBase := Lib.hid (And.intro HB.out.far.1 (And.intro HB.out.low (And.intro HB.out.siz HB.out.ok)))
      clear HB
      cases sb with
      | true =>
        go_upto_region 16 with (fail)
        go_wp2_with (rw [← hwe])
        refine HSO.out.mono ?_
        rintro e w3 ⟨rfl, hw3, ho3⟩
        have hb3 : Both B w1 w3 B rb L A3 c3 := ⟨hw3, HR2.out.only ho3 (fun e => HBase.out.1 e.symm) (fun k e e2 => HF2.out (by rw [e, e2])), HBase.out.2.2.2, ⟨HBase.out.1, HF2.out⟩, HBE2.out.trans (ho3.below (Nat.le_trans HBase.out.2.2.1 HBE2.out.size) fun k e => by have := HBase.out.2.1; omega), HBase.out.2.1, HBase.out.2.2.1⟩
        have HB3 := Lib.hid hb3
        have HG1 := Lib.hid (Greatest_any hb3.win)
        obtain ⟨M, hM⟩ : ∃ M, maxL L = M := ⟨_, rfl⟩
        rw [hM] at HG1
        have HMQ := Lib.hid hM
        clear hw3 ho3 hb3 hM HSO HW2 HR2 HF2 HBE2 HBase hwe x0
        go_wp2_with fail
        refine HG1.out.mono ?_
        rintro e w4 ⟨rfl, hb4⟩
        have h4 := HB3.out.later hb4
        have hg2 := RGreatest_any h4.ref (by omega)
        rw [HMQ.out] at hg2
        have HG2 := Lib.hid hg2
        have HB4 := Lib.hid h4
        clear hb4 h4 hg2 HG1 HB3
        go_wp2_with fail
        refine HG2.out.mono ?_
        rintro e w5 ⟨rfl, hb5⟩
        have HB5 := Lib.hid (HB4.out.later hb5)
        clear hb5 HG2 HB4
        go_wp2_with fail
        go_roundw
        case rel => exact ⟨k + 1, L, A3, c3, by omega, by go_num, by skip; omega, HB5⟩
        case measure => simp [intOf]; omega
      | false =>
        go_upto_region 16 with (fail)
        go_wp2_with (rw [← hwe])
        refine HSO.out.mono ?_
        rintro e w3 ⟨rfl, hw3, ho3⟩
        have hb3 : Both B w1 w3 B rb (L ++ [p]) A3 c3 := ⟨hw3, HR2.out.only ho3 (fun e => HBase.out.1 e.symm) (fun k e e2 => HF2.out (by rw [e, e2])), (HBase.out.2.2.2.snoc HSB.out), ⟨HBase.out.1, HF2.out⟩, HBE2.out.trans (ho3.below (Nat.le_trans HBase.out.2.2.1 HBE2.out.size) fun k e => by have := HBase.out.2.1; omega), HBase.out.2.1, HBase.out.2.2.1⟩
        have HB3 := Lib.hid hb3
        have HG1 := Lib.hid (Greatest_any hb3.win)
        obtain ⟨M, hM⟩ : ∃ M, maxL (L ++ [p]) = M := ⟨_, rfl⟩
        rw [hM] at HG1
        have HMQ := Lib.hid hM
        clear hw3 ho3 hb3 hM HSO HW2 HR2 HF2 HBE2 HBase hwe x0
        go_wp2_with fail
        refine HG1.out.mono ?_
        rintro e w4 ⟨rfl, hb4⟩
        have h4 := HB3.out.later hb4
        have hg2 := RGreatest_any h4.ref (by rw [List.length_append, List.length_singleton]; omega)
        rw [HMQ.out] at hg2
        have HG2 := Lib.hid hg2
        have HB4 := Lib.hid h4
        clear hb4 h4 hg2 HG1 HB3
        go_wp2_with fail
        refine HG2.out.mono ?_
        rintro e w5 ⟨rfl, hb5⟩
        have HB5 := Lib.hid (HB4.out.later hb5)
        clear hb5 HG2 HB4
        go_wp2_with fail
        go_roundw
        case rel => exact ⟨k + 1, (L ++ [p]), A3, c3, by omega, by go_num, by rw [List.length_append, List.length_singleton]; omega, HB5⟩
        case measure => simp [intOf]; omega
    · obtain rfl : k = n := by omega
      have hL200 : L.length ≤ 1000 := by omega
      go_wp2_with fail
      go_loopw [53] (fun i wq => ∃ (j : Nat), j ≤ n2 ∧ i = .int .i64 (j : Int) ∧ Hid (Both B w1 wq B rb L A1 c1)) (fun i _ => n2 - (intOf i).toNat)
      case atStart => exact ⟨0, Nat.zero_le _, rfl, HB⟩
      case round =>
        clear HB
        obtain ⟨j, hjn, rfl, HB⟩ := hrel
        by_cases hlt2 : j < n2
        · have hkl : j < ss.length := by rw [HLN2.out]; exact hlt2
          obtain ⟨g, off, rfl, x0⟩ := (HB.out.ints HH3.out HLT2.out) j hkl
          obtain ⟨p, hp⟩ : ∃ p, ss[j] = p := ⟨_, rfl⟩
          rw [hp] at x0
          obtain ⟨sb, hsb⟩ : ∃ sb, seenL L p = sb := ⟨_, rfl⟩
          have hs1 := Seen_any HB.out.win HB.out.ok p
          rw [hsb] at hs1
          have HS1 := Lib.hid hs1
          have HSB := Lib.hid hsb
          clear hp hkl hsb hs1
          go_wp2_with fail
          refine HS1.out.mono ?_
          rintro e w2 ⟨rfl, hb2⟩
          have h2 := HB.out.later hb2
          have hs2 := RSeen_any h2.ref h2.ok p hL200
          rw [HSB.out] at hs2
          have HS2 := Lib.hid hs2
          have HB2 := Lib.hid h2
          clear hb2 h2 hs2 HS1 HB x0
          go_wp2_with fail
          refine HS2.out.mono ?_
          rintro e w3 ⟨rfl, hb3⟩
          have HB3 := Lib.hid (HB2.out.later hb3)
          clear hb3 HS2 HB2
          cases sb <;>
          · go_wp2_with fail
            go_roundw
            case rel => exact ⟨j + 1, by omega, by go_num, HB3⟩
            case measure => simp [intOf]; omega
        · obtain rfl : j = n2 := by omega
          go_wp2_with fail
          go_returns
          exact ⟨rfl, HB1.out.trans ((HB.out.bel.mono (by rw [HBq.out]; exact Nat.le_refl _)).mono HB1.out.size)⟩

theorem opened {H : Type} {enc : TypeId × Value → H} {W : World} {base : Nat} {gs : List (DataW H)} (v0 : Value) (d0 : DataW H) (p0 : List MemPlace) (v1 : Value) (d1 : DataW H) (p1 : List MemPlace) (v2 : Value) (d2 : DataW H) (p2 : List MemPlace)
    (o0 : Value.okWide Try.prog W .any base 22 v0) (t0 : DataW.Trod enc Try.prog W 0 (fun _ => true) true 22 v0 d0 p0)
    (o1 : Value.okWide Try.prog W .any base 22 v1) (t1 : DataW.Trod enc Try.prog W 0 (fun _ => true) true 22 v1 d1 p1)
    (o2 : Value.okWide Try.prog W .any base 4 v2) (_t2 : DataW.Trod enc Try.prog W 0 (fun _ => true) true 4 v2 d2 p2)
    (_hsz : (DataW.weightsEach Try.prog ([22, 22, 4] ++ []) ([d0, d1, d2] ++ gs)).all (· ≤ reachBytes) = true) :
    Calls Try.prog 3 #[v0, v1, v2] W fun e W' => e = .returned (.bool true) ∧ Below W.heap.size W W' := by
  obtain ⟨A, ks, cap, rfl, h1, h2⟩ := arg_ints o0 t0
  obtain ⟨A2, ss, cap2, rfl, h3, h4⟩ := arg_ints o1 t1
  obtain ⟨c, rfl⟩ := okWide_bool Try.underlying4 o2
  exact walk A A2 ks ss cap cap2 c W h1 h3 h2 h4

theorem contract (H : Type) (enc : TypeId × Value → H) (W : World) (base : Nat) (args : Array Value) (ds gs : List (DataW H)) (before : List MemPlace)
    (hval : ∀ (j : Nat) t v, Try.f3.params[j]? = some t → args[j]? = some v → Value.okWide Try.prog W .any base t v)
    (hW : DataW.Whole enc Try.prog Try.f3.params.toList Rows.windowPlaysSpec.vars false W args.toList ds gs before)
    (hsz : (DataW.weightsEach Try.prog (Try.f3.params.toList ++ []) (ds ++ gs)).all (· ≤ reachBytes) = true) :
    Calls Try.prog 3 args W fun e W' => ∃ v, e = .returned v ∧ Rows.windowPlaysSpec.post enc Try.prog Try.f3 false true false false W args v W' := by
  have hW0 := hW
  obtain ⟨p, q, hA0, hV, rfl, _, _⟩ := hW
  have hA : DataW.TrodAll enc Try.prog W 0 (fun _ => true) true Try.f3.params.toList args.toList ds p := hA0
  rw [Try.params3] at hA hval hsz
  obtain ⟨v0, vs0, d0, ds0, p0, q0, hargs, rfl, rfl, h0, r0⟩ := trodAll_cons hA
  obtain ⟨v1, vs1, d1, ds1, p1, q1, rfl, rfl, rfl, h1, r1⟩ := trodAll_cons r0
  obtain ⟨v2, vs2, d2, ds2, p2, q2, rfl, rfl, rfl, h2, r2⟩ := trodAll_cons r1
  obtain ⟨rfl, rfl, rfl⟩ := trodAll_nil r2
  obtain rfl : args = #[v0, v1, v2] := by cases args; simp_all
  refine (opened v0 d0 p0 v1 d1 p1 v2 d2 p2 (hval 0 22 v0 rfl rfl) h0 (hval 1 22 v1 rfl rfl) h1 (hval 2 4 v2 rfl rfl) h2 hsz).mono fun e W' ⟨he, hb⟩ => ⟨_, he, ?_⟩
  exact Base.law_post (tb := 4) Base.laidOut (by kernel_rfl) rfl Try.underlying4 rfl (fun l hl => by
    rw [Try.params3] at hl
    match l, hl with
    | [_, _, _], _ => rfl) (by rw [Try.params3]; rfl) hW0 hb

theorem laid_met (os : Os) : laidMet Try.prog Rows.windowPlaysRow.laid ((Base.plainWorld os).forCall (fun _ _ => 0) ⟨#[], #[.slice none 0 0, .slice none 0 0, .bool false], []⟩).memory := laidMet_nil _ _
theorem reads (os : Os) {H : Type} (enc : TypeId × Value → H) : ∃ places, DataW.whole enc Try.prog ((Base.plainWorld os).forCall (fun _ _ => 0) ⟨#[], #[.slice none 0 0, .slice none 0 0, .bool false], []⟩).memory Try.f3.params.toList Rows.windowPlaysSpec.vars false (#[.slice none 0 0, .slice none 0 0, .bool false] : Array Value).toList 8 = some ([.nil, .nil, .lit (.bool false)], [], places) :=
  ⟨[], by kernel_rfl⟩

set_option maxRecDepth 100000 in
theorem lifted (os : Os) (started : os.Started) (H : Type) (enc : TypeId × Value → H) (F : Stop.Interp) :
    ReturnsInHanded {} Try.checked os 3 .any ((OpenSpec.ofChange Rows.windowPlaysSpec).preRow enc Try.prog Try.f3 Rows.windowPlaysRow.domain false Rows.windowPlaysRow.laid) (((OpenSpec.ofChange Rows.windowPlaysSpec).at F).post enc Try.prog Try.f3 false true false false) := by
  obtain ⟨places, hx⟩ := reads os enc
  refine returnsInHanded_of_row (C := Try.checked) (s := OpenSpec.ofChange Rows.windowPlaysSpec) Base.own started (by kernel_rfl) Try.func3
    (witness_row_at (enc := enc) (C := Try.checked) false (Base.plainWorld os) #[.slice none 0 0, .slice none 0 0, .bool false] rfl (by kernel_rfl) (by kernel_rfl) (by kernel_rfl)
      (OpenSpec.preRow_of_cond 8 hx (by kernel_rfl) (fun k hk => by cases hk) (by kernel_rfl) (laid_met os))) ?_
  intro W base args ds gs before hval hW _ _ hsz _ _ _
  exact contract H enc W base args ds gs before hval hW hsz

theorem said : Rows.WindowPlaysSaid :=
  OpenClaim.holds_of_cond 3 Try.f3 rfl rfl rfl rfl rfl rfl rfl ⟨rfl, rfl, rfl, rfl, rfl⟩ rfl rfl rfl rfl rfl (by kernel_rfl) Try.func3 (by kernel_rfl)
    (of_decide_eq_true (by kernel_rfl)) (by unfold Func.isWrapper; rw [if_neg (of_decide_eq_false (by kernel_rfl))]; exact ⟨rfl, rfl⟩)
    (fun os started H enc _ F => by rw [OpenClaim.pre_eq_preRow]; exact lifted os started H enc F)
#print axioms said
end Go.Proofs.Ytplaacgahloooaa.WindowPlays
