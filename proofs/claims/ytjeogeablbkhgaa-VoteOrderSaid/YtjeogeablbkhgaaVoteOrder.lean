/-
  P19.2: In whatever order all parts vote yes, a ballot is committed with the last one's, and not ahead; with one no among them it is aborted. Conditions: none.
-/
import Derived.Test.YtjeogeablbkhgaaVotAwk
namespace Go.Proofs.Ytjeogeablbkhgaa.VoteOrder
set_option maxRecDepth 100000
open Go.ChangeShapes Go.WideShapes Go.ChangeAt Go.RowKit Go.Deep Go.Proofs.Ytjeogeablbkhgaa.Mem Go.Proofs.Ytjeogeablbkhgaa.Item Go.Proofs.Ytjeogeablbkhgaa.Vot

abbrev iv : Int → List Value := fv fun x : Int => x
/-- Of a ballot's parts just those voted yes that aren't left. -/
def RemB (rem : List Int) (l : List Sd) : Prop := ∀ x ∈ l, x.yes = decide (x.node ∉ rem)
def cutR (rem : List Int) (k : Nat) : List Int := rem.take k ++ rem.drop (k + 1)
theorem cut_mem {rem : List Int} {k : Nat} (hn : rem.Nodup) (hk : k < rem.length) (m : Int) : m ∈ cutR rem k ↔ m ∈ rem ∧ m ≠ rem[k] := by
  have e : rem = rem.take k ++ rem[k] :: rem.drop (k + 1) := by rw [List.getElem_cons_drop, List.take_append_drop]
  have hn2 : (rem.take k ++ rem[k] :: rem.drop (k + 1)).Nodup := by rw [← e]; exact hn
  rw [List.nodup_append, List.nodup_cons] at hn2
  obtain ⟨_, ⟨h2, _⟩, h3⟩ := hn2
  have e2 : m ∈ rem ↔ m ∈ rem.take k ++ rem[k] :: rem.drop (k + 1) := by rw [← e]
  rw [e2]
  unfold cutR
  rw [List.mem_append, List.mem_append, List.mem_cons]
  constructor
  · rintro (h | h)
    · exact ⟨Or.inl h, h3 m h _ List.mem_cons_self⟩
    · exact ⟨Or.inr (Or.inr h), fun e => h2 (by rw [← e]; exact h)⟩
  · rintro ⟨h | h | h, hne⟩
    · exact Or.inl h
    · exact absurd h hne
    · exact Or.inr h
theorem cut_len {rem : List Int} {k : Nat} (hk : k < rem.length) : (cutR rem k).length + 1 = rem.length := by
  unfold cutR
  rw [List.length_append, List.length_take, List.length_drop]
  omega
theorem cut_nodup {rem : List Int} {k : Nat} (hn : rem.Nodup) : (cutR rem k).Nodup := by
  unfold cutR
  rw [← List.eraseIdx_eq_take_drop_succ]
  exact hn.sublist (List.eraseIdx_sublist _ _)
theorem rem_vote {rem : List Int} {l : List Sd} {k : Nat} (hn : rem.Nodup) (hk : k < rem.length) (h : RemB rem l) : RemB (cutR rem k) (sayL rem[k] l) := fun x hx => by
  obtain ⟨y, hy, rfl⟩ := List.mem_map.1 hx
  have hm := cut_mem hn hk
  unfold Sd.say
  split
  · rename_i e
    unfold Sd.setY
    have : y.node ∉ cutR rem k := fun e2 => ((hm _).1 e2).2 e
    simp [this]
  · rename_i e
    rw [h y hy]
    refine decide_eq_decide.2 ?_
    rw [hm]
    constructor
    · intro h1 h2; exact h1 h2.1
    · intro h1 h2; exact h1 ⟨h2, e⟩
theorem rem_open {rem : List Int} {l : List Sd} (h : RemB rem l) (hs : ∀ m ∈ rem, m ∈ l.map (·.node)) (h0 : rem ≠ []) : allY l = false := by
  obtain ⟨m, hm⟩ := List.exists_mem_of_ne_nil _ h0
  obtain ⟨x, hx, e⟩ := List.mem_map.1 (hs m hm)
  unfold allY
  rw [List.all_eq_false]
  refine ⟨x, hx, ?_⟩
  rw [h x hx, e]
  simp [hm]
theorem rem_done {l : List Sd} (h : RemB [] l) : allY l = true := by
  unfold allY
  rw [List.all_eq_true]
  intro x hx
  rw [h x hx]
  simp
theorem has_mem {l : List Sd} {n : Int} (h : n ∈ l.map (·.node)) : hasN n l = true := by
  obtain ⟨x, hx, e⟩ := List.mem_map.1 h
  unfold hasN
  rw [List.any_eq_true]
  exact ⟨x, hx, by simpa using e⟩
/-- What b, of which all vote yes, is while rem are left. -/
structure BInv (ns rem : List Int) (l : List Sd) : Prop where
  nodes : l.map (·.node) = ns
  yes : RemB rem l
theorem BInv.vote {ns rem : List Int} {l : List Sd} (h : BInv ns rem l) (hn : rem.Nodup) (hs : ∀ m ∈ rem, m ∈ ns) {k : Nat} (hk : k < rem.length) :
    voteS (stC false l) rem[k] true l = (if (cutR rem k).length = 0 then 1 else 0) ∧ voteA false (stC false l) rem[k] true l = false ∧ BInv ns (cutR rem k) (voteL (stC false l) rem[k] true l) := by
  have hne : rem ≠ [] := fun e => by rw [e] at hk; simp at hk
  have h0 : stC false l = 0 := by unfold stC; rw [rem_open h.yes (by rw [h.nodes]; exact hs) hne]; rfl
  have hr := rem_vote hn hk h.yes
  rw [h0]
  have hv : voteL 0 rem[k] true l = sayL rem[k] l := vote_yes (ab := false).2
  refine ⟨?_, (vote_yes (ab := false) (l := l)).1, ?_⟩
  · unfold voteS
    rw [if_pos rfl, Bool.not_true, Bool.false_and, if_neg (by decide), hv]
    by_cases he : cutR rem k = []
    · rw [he] at hr ⊢
      rw [rem_done hr]
      rfl
    · rw [rem_open hr (fun m hm => by rw [say_nodes, h.nodes]; exact hs m ((cut_mem hn hk m).1 hm).1) he, if_neg (by decide), if_neg fun e => he (List.eq_nil_of_length_eq_zero e)]
  · rw [hv]
    exact ⟨by rw [say_nodes]; exact h.nodes, hr⟩
/-- What c, of which one votes no, is while rem are left. -/
structure CInv (ns rem : List Int) (ab : Bool) (l : List Sd) : Prop where
  nodes : l.map (·.node) = ns
  ab : ab = decide (rem.length ≤ ns.length / 2)
  yes : ns.length / 2 < rem.length → RemB rem l
theorem CInv.vote {ns rem : List Int} {ab : Bool} {l : List Sd} (h : CInv ns rem ab l) (hn : rem.Nodup) (hs : ∀ m ∈ rem, m ∈ ns) {k : Nat} (hk : k < rem.length) {y : Bool} (hy : y = decide ((cutR rem k).length ≠ ns.length / 2)) :
    CInv ns (cutR rem k) (voteA ab (stC ab l) rem[k] y l) (voteL (stC ab l) rem[k] y l) := by
  have hcl := cut_len hk
  by_cases hle : rem.length ≤ ns.length / 2
  · have hab : ab = true := by rw [h.ab]; exact decide_eq_true hle
    subst hab
    obtain ⟨_, k1, k2⟩ := vote_shut (ab := true) (l := l) (n := rem[k]) (y := y) (s := stC true l) (by rw [stC_two.2 rfl]; decide)
    rw [k1, k2]
    exact ⟨h.nodes, (decide_eq_true (by omega)).symm, fun e => by omega⟩
  · have hab : ab = false := by rw [h.ab]; exact decide_eq_false hle
    subst hab
    have hB := h.yes (by omega)
    have hne : rem ≠ [] := fun e => by rw [e] at hk; simp at hk
    have h0 : stC false l = 0 := by unfold stC; rw [rem_open hB (by rw [h.nodes]; exact hs) hne]; rfl
    rw [h0]
    by_cases he : (cutR rem k).length = ns.length / 2
    · have hyf : y = false := by rw [hy]; simp [he]
      subst hyf
      obtain ⟨k1, k2⟩ := vote_no (ab := false) (l := l) (has_mem (n := rem[k]) (by rw [h.nodes]; exact hs _ (List.getElem_mem hk)))
      rw [k1, k2]
      exact ⟨h.nodes, (decide_eq_true (by omega)).symm, fun e => by omega⟩
    · have hyt : y = true := by rw [hy]; simp [he]
      subst hyt
      obtain ⟨k1, k2⟩ := vote_yes (ab := false) (l := l) (n := rem[k])
      rw [k1, k2]
      exact ⟨by rw [say_nodes]; exact h.nodes, (decide_eq_false (by omega)).symm, fun _ => rem_vote hn hk hB⟩
theorem inv_new {ns : List Int} {l ps : List Sd} (h : Like l ps) (hf : ∀ s ∈ ps, s.yes = false ∧ s.ack = false) (hns : ps.map (·.node) = ns) : l.map (·.node) = ns ∧ RemB ns l := by
  have hn : l.map (·.node) = ns := by rw [← hns]; exact like_nodes h
  refine ⟨hn, fun x hx => ?_⟩
  have h1 : x.node ∈ ns := by rw [← hn]; exact List.mem_map_of_mem hx
  have h2 : x.core ∈ ps.map Sd.core := by rw [← h]; exact List.mem_map_of_mem hx
  obtain ⟨y, hy, e⟩ := List.mem_map.1 h2
  have h3 := (core_inj e).2.2.1
  rw [← h3, (hf y hy).1]
  simp [h1]
theorem own_iv {B : Nat} {w : World} {v : Value} {l : List Sd} (h : OwnG 3 1 nv B w v l) : OwnG 3 1 iv B w v (l.map (·.node)) := by
  unfold OwnG at h ⊢
  rw [List.length_map, List.map_map]
  exact h
theorem rem_from {B r lc lg k : Nat} {w : World} {rem : List Int} (h : OwnG 3 1 iv B w (.slice (some ⟨lg, 0, none⟩) r lc) rem) (hk : k < rem.length) : r = rem.length ∧ rem.length ≤ lc ∧ (∀ wi, Below w.heap.size w wi → Sl wi (some ⟨lg, 0, none⟩) 1 ((rem.take k).map iv)) ∧
    ∃ AD : Addr, (if lc = k + 1 then some ⟨lg, 0, none⟩ else some ⟨lg, k + 1, none⟩ : Option Addr) = some AD ∧ ∀ wi, Below w.heap.size w wi → Sl wi (some AD) 1 ((rem.drop (k + 1)).map iv) := by
  obtain ⟨rfl, hs⟩ := OwnG.sl (fit_fv fun x : Int => x) h
  have hac := (cells_of_own h).2.1
  refine ⟨rfl, hac, fun wi hb => ?_, ?_⟩
  · rw [List.map_take]
    exact sl_take' (hs.later hb) k
  · by_cases he : lc = k + 1
    · refine ⟨_, if_pos he, fun wi hb => ?_⟩
      have h0 : rem.drop (k + 1) = [] := List.drop_eq_nil_iff.2 (by omega)
      rw [h0]
      exact sl_nil _ _ _
    · refine ⟨_, if_neg he, fun wi hb => ?_⟩
      have := sl_drop' (hs.later hb) (k + 1)
      rw [Nat.zero_add, Nat.mul_one] at this
      rw [List.map_drop]
      exact this
set_option maxHeartbeats 4000000 in
theorem walk (t : Tid) (O : Option Addr) (ps : List Sd) (oc : Nat) (U : Option Addr) (us : List Int) (uc : Nat) (w : World) (h : InParts w O ps) (hl : ps.length ≤ 140737488351232) (hu : U8s w U us) (huk : ∀ x ∈ us, 0 ≤ x ∧ x ≤ 255) (_hul : us.length ≤ 140737488351232) :
    Calls Try.prog 6 #[.agg #[.int .i64 t.node, .int .i64 t.epoch, .int .i64 t.seq], .slice O ps.length oc, .slice U us.length uc] w fun e w' => e = .returned (.bool true) ∧ Below w.heap.size w w' := by
  obtain ⟨wa, hwa⟩ : ∃ W, W = w.alloc (.cells #[.int .i64 t.node, .int .i64 t.epoch, .int .i64 t.seq] 23) := ⟨_, rfl⟩
  have hba : Below w.heap.size w wa := by rw [hwa]; exact below_alloc _ _
  have hca : Cells wa w.heap.size 23 [.int .i64 t.node, .int .i64 t.epoch, .int .i64 t.seq] := by rw [hwa]; exact cells_new _ _ _ _ rfl
  have HAW := Lib.hid (awake_any wa)
  have HP := Lib.hid (fun W (hb : Below w.heap.size w W) => h.later hb)
  have HU := Lib.hid (fun W (hb : Below w.heap.size w W) => hu.later hb)
  have HUK := Lib.hid huk
  have HBA := Lib.hid hba
  have HCA0 := Lib.hid hca
  obtain ⟨n, hn⟩ : ∃ n, ps.length = n := ⟨_, rfl⟩
  obtain ⟨nu, hnu⟩ : ∃ n, us.length = n := ⟨_, rfl⟩
  rw [hn] at hl ⊢
  rw [hnu]
  have HN := Lib.hid (And.intro hn hnu)
  clear h hu huk hba hca hn hnu
  go_enter Try.func6, Try.ntmps6
  go_upto_region 1 with (fail)
  rw [← hwa]
  clear hwa
  go_wp2_with fail
  refine HAW.out.mono ?_
  rintro e w1 ⟨rfl, hb1⟩
  have HB1 := Lib.hid (HBA.out.trans (hb1.mono HBA.out.size))
  have HC1 := Lib.hid (HCA0.out.later hb1)
  clear hb1 HAW HBA HCA0
  have hgr := great_any (cap := oc) (HP.out w1 HB1.out) (by rw [HN.out.1]; exact hl)
  rw [HN.out.1] at hgr
  obtain ⟨gr, hgre⟩ : ∃ b, greatP ps = b := ⟨_, rfl⟩
  rw [hgre] at hgr
  have HGR := Lib.hid hgr
  have HGE := Lib.hid hgre
  clear hgr hgre
  go_wp2_with fail
  refine HGR.out.mono ?_
  rintro e w2 ⟨rfl, hb2⟩
  have HB2 := Lib.hid (HB1.out.trans (hb2.mono HB1.out.size))
  have hc2 := HC1.out.later hb2
  have y0 := hc2.cell (j := 0) rfl
  have y1 := hc2.cell (j := 1) rfl
  have y2 := hc2.cell (j := 2) rfl
  have HC2 := Lib.hid hc2
  clear hb2 hc2 HGR HB1 HC1
  cases gr with
  | true =>
    go_wp2_with fail
    go_returns
    exact ⟨rfl, HB2.out⟩
  | false =>
    obtain ⟨hn40, hpp, hfl⟩ := (HP.out w2 HB2.out).small HGE.out
    have HFL := Lib.hid hfl
    rw [HN.out.1] at hn40
    have HP40 : Hid (ps.length ≤ 40) := Lib.hid (by rw [HN.out.1]; exact hn40)
    have hnw := New_any (oc := oc) t hpp HP40.out hfl
    rw [HN.out.1] at hnw
    have HNW := Lib.hid hnw
    clear hpp hfl hnw
    go_wp2_with fail
    refine (show Calls Try.prog 9 #[.agg #[.int .i64 t.node, .int .i64 t.epoch, .int .i64 t.seq], .slice O n oc] _ _ from HNW.out).mono ?_
    rintro e w3 ⟨hb3, hbad, hok⟩
    have HB3 := Lib.hid (HB2.out.trans (hb3.mono HB2.out.size))
    have hc3 := HC2.out.later hb3
    have z0 := hc3.cell (j := 0) rfl
    have z1 := hc3.cell (j := 1) rfl
    have z2 := hc3.cell (j := 2) rfl
    obtain ⟨_, hpp, _⟩ := (HP.out w3 HB3.out).small HGE.out
    have hnw := New_any (oc := oc) t hpp HP40.out HFL.out
    rw [HN.out.1] at hnw
    have HNW3 := Lib.hid hnw
    clear hc3 hpp hnw HNW HC2 y0 y1 y2
    obtain ⟨q, hq⟩ : ∃ q, (rightTid t && okParts ps) = q := ⟨_, rfl⟩
    have HQ := Lib.hid hq
    rw [hq] at hbad hok
    clear hq
    cases q with
    | false =>
      have hb := hbad rfl
      subst hb
      clear hbad hok hb3
      go_wp2_with fail
      refine (show Calls Try.prog 9 #[.agg #[.int .i64 t.node, .int .i64 t.epoch, .int .i64 t.seq], .slice O n oc] _ _ from HNW3.out).mono ?_
      rintro e w4 ⟨hb4, hbad, _⟩
      have hb := hbad HQ.out
      subst hb
      have HB4 := Lib.hid (HB3.out.trans (hb4.mono HB3.out.size))
      clear hbad hb4 HNW3
      go_wp2_with fail
      go_returns
      exact ⟨rfl, HB4.out⟩
    | true =>
      obtain ⟨gb, Ab, cb, lb, rfl, hatb, hlkb, hitb⟩ := hok rfl
      have HATB := Lib.hid hatb
      have HLKB := Lib.hid hlkb
      have HSZ3 := Lib.hid hb3.size
      clear hbad hok hb3 hatb hlkb hitb
      go_wp2_with fail
      refine (show Calls Try.prog 9 #[.agg #[.int .i64 t.node, .int .i64 t.epoch, .int .i64 t.seq], .slice O n oc] _ _ from HNW3.out).mono ?_
      rintro e w4 ⟨hb4, _, hok⟩
      obtain ⟨gc, Ac, cc, lcx, rfl, hatc, hlkc, hitc⟩ := hok HQ.out
      have HB4 := Lib.hid (HB3.out.trans (hb4.mono HB3.out.size))
      have HATB4 := Lib.hid (HATB.out.later hb4)
      have HND := Lib.hid (Nodes_any HATB4.out)
      obtain ⟨ns, hns⟩ : ∃ ns, ps.map (·.node) = ns := ⟨_, rfl⟩
      obtain ⟨i1, i2⟩ := inv_new HLKB.out HFL.out hns
      obtain ⟨i3, i4⟩ := inv_new hlkc HFL.out hns
      have hnsl : ns.length = n := by rw [← hns, List.length_map]; exact HN.out.1
      have HNS : Hid (ns.length = n ∧ ns.Nodup) := Lib.hid ⟨hnsl, by rw [← hns]; exact parts_uniq (by have h1 := HQ.out; rw [Bool.and_eq_true] at h1; exact h1.2)⟩
      have HBI : Hid (BInv ns ns lb) := Lib.hid ⟨i1, i2⟩
      have HSZ : Hid (w.heap.size ≤ w2.heap.size ∧ w2.heap.size ≤ w3.heap.size ∧ w3.heap.size ≤ w4.heap.size) := Lib.hid ⟨HB2.out.size, HSZ3.out, hb4.size⟩
      have HCI : Hid ((n = 0 ∧ lcx = []) ∨ CInv ns ns false lcx) := Lib.hid (by
        by_cases h0 : n = 0
        · refine Or.inl ⟨h0, ?_⟩
          have : lcx.length = 0 := by rw [hlkc.len, HN.out.1]; exact h0
          exact List.eq_nil_of_length_eq_zero this
        · exact Or.inr ⟨i3, (decide_eq_false (by omega)).symm, fun _ => i4⟩)
      have HATC := Lib.hid hatc
      have HITC := Lib.hid hitc
      have HLN : Hid (lb.map (·.node) = ns) := Lib.hid i1
      clear hb4 hok hatc hlkc hitc hns i1 i2 i3 i4 hnsl HATB HLKB HNW3 HSZ3 z0 z1 z2 HB2 HB3
      go_wp2_with fail
      refine HND.out.mono ?_
      rintro e w5 ⟨⟨L0, r0, lc0, rfl, hrow⟩, hb5⟩
      have hrow2 := own_iv hrow
      rw [HLN.out] at hrow2
      have HB5 := Lib.hid (HB4.out.trans (hb5.mono HB4.out.size))
      have HATB5 := Lib.hid (HATB4.out.later hb5)
      have HATC5 := Lib.hid (HATC.out.later hb5)
      have HROW5 := Lib.hid hrow2
      have hr0 : r0 = n := by rw [(OwnG.sl (fit_fv fun x : Int => x) hrow2).1]; exact HNS.out.1
      subst hr0
      clear hb5 hrow hrow2 HND HATB4 HATC HB4
      go_wp2_with fail
      go_loopw [11, 12, 13, 14, 15] (fun a i _ _ _ wr => ∃ (k r : Nat) (L : Option Addr) (lc : Nat) (rem : List Int) (lb lcx : List Sd) (ab : Bool), k ≤ r0 ∧ i = .int .i64 (k : Int) ∧ a = .slice L r lc ∧ k + r = r0 ∧ Hid (rem.length = r ∧ rem.Nodup ∧ ∀ m ∈ rem, m ∈ ns) ∧ Hid (OwnG 3 1 iv w4.heap.size wr (.slice L r lc) rem) ∧ Hid (CAt w2.heap.size w3.heap.size wr gb Ab cb t false lb ∧ BInv ns rem lb) ∧ Hid (CAt w3.heap.size w4.heap.size wr gc Ac cc t ab lcx ∧ Its (fun j => w3.heap.size ≤ j) lcx ∧ ((r0 = 0 ∧ lcx = []) ∨ CInv ns rem ab lcx)) ∧ Hid (Below w.heap.size w wr)) (fun _ i _ _ _ _ => r0 - (intOf i).toNat)
      case atStart => exact ⟨0, r0, L0, lc0, ns, lb, lcx, false, Nat.zero_le _, rfl, rfl, by omega, Lib.hid ⟨HNS.out.1, HNS.out.2, fun m hm => hm⟩, HROW5, Lib.hid ⟨HATB5.out, HBI.out⟩, Lib.hid ⟨HATC5.out, HITC.out, HCI.out⟩, HB5⟩
      case round =>
        clear HROW5 HATB5 HATC5 HITC HCI HBI HB5 HLN
        obtain ⟨k, r, L, lc, rem, lb, lcx, ab, hk, rfl, rfl, hkr, HR, HROW, HAB, HAC, HB⟩ := hrel
        by_cases hr : 0 < r
        · have e1 : decide ((r : Int) > 0) = true := decide_eq_true (by omega)
          have hrl : 0 < rem.length := by rw [HR.out.1]; exact hr
          obtain ⟨lg, rfl, -⟩ := OwnG.icell HROW.out hrl
          clear hrl
          go_upto_region 14 with (fail)
          obtain ⟨bi, hbi⟩ : ∃ b, decide (k < nu) = b := ⟨_, rfl⟩
          go_cut [54] from 51 to 53 (fun v wx => v = .bool bi ∧ wx = wr)
          case first =>
            go_wp2_with fail
            go_meet
            exact ⟨rfl, rfl⟩
          obtain ⟨rfl, hwr⟩ := hcut
          rw [hwr]
          clear hwr
          apply_assumption
          go_cut [13] from 55 to 62 (fun v wx => ∃ kk : Nat, v = .int .i64 (kk : Int) ∧ kk < r ∧ wx = wr)
          case first =>
            cases bi with
            | true =>
              have hi : k < nu := of_decide_eq_true hbi
              have hil : k < us.length := by rw [HN.out.2]; exact hi
              obtain ⟨ug, uo, rfl, hc⟩ := HU.out wr HB.out k hil
              obtain ⟨q1, q2⟩ := HUK.out us[k] (List.getElem_mem hil)
              obtain ⟨x, hx⟩ : ∃ x : Nat, us[k] = (x : Int) := ⟨us[k].toNat, by omega⟩
              rw [hx] at hc q2
              have hr0 : ((r : Int) == 0) = false := by simp; omega
              obtain ⟨k0, hk0⟩ : ∃ q, x % r = q := ⟨_, rfl⟩
              have hkk : ((x : Int) % (r : Int)) = (k0 : Int) := by rw [← hk0]; simp
              have hkl : k0 < r := by rw [← hk0]; exact Nat.mod_lt _ hr
              clear hx hil q1 hk0 hbi
              go_wp2_with fail
              go_meet
              exact ⟨k0, by rw [hkk], hkl, rfl⟩
            | false =>
              go_wp2_with fail
              go_meet
              exact ⟨0, rfl, hr, rfl⟩
          clear hbi
          obtain ⟨kk, rfl, hkk, hwr⟩ := hcut
          rw [hwr]
          clear hwr
          apply_assumption
          have hkl : kk < rem.length := by rw [HR.out.1]; exact hkk
          obtain ⟨lg2, e2, _, hcell, _⟩ := OwnG.icell HROW.out hkl
          obtain rfl : lg = lg2 := by simpa using e2
          obtain ⟨hrr, hrc, hts, AD, hAD, hds⟩ := rem_from HROW.out hkl
          have hctl := cut_len hkl
          have HCN := Lib.hid (cut_nodup (k := kk) HR.out.2.1)
          have HCS : Hid (∀ m ∈ cutR rem kk, m ∈ ns) := Lib.hid fun m hm => HR.out.2.2 m ((cut_mem HR.out.2.1 hkl m).1 hm).1
          have HVB := Lib.hid (HAB.out.2.vote HR.out.2.1 HR.out.2.2 hkl)
          have HVC : Hid (∀ y, y = decide ((cutR rem kk).length ≠ ns.length / 2) → (r0 = 0 ∧ lcx = []) ∨ CInv ns (cutR rem kk) (voteA ab (stC ab lcx) rem[kk] y lcx) (voteL (stC ab lcx) rem[kk] y lcx)) := Lib.hid fun y hy => by
            rcases HAC.out.2.2 with h1 | h1
            · exact Or.inl h1
            · exact Or.inr (h1.vote HR.out.2.1 HR.out.2.2 hkl hy)
          obtain ⟨nd, hnd⟩ : ∃ x, rem[kk] = x := ⟨_, rfl⟩
          rw [hnd] at hcell HVB HVC
          have HCU : Hid (rem.take kk ++ rem.drop (kk + 1) = cutR rem kk ∧ (cutR rem kk).length + 1 = r) := Lib.hid ⟨rfl, by rw [hctl]; exact HR.out.1⟩
          have HI : Hid (kk < r ∧ r ≤ lc ∧ r ≤ 40) := Lib.hid ⟨hkk, by rw [← HR.out.1]; exact hrc, by omega⟩
          have HLN2 : Hid ((rem.take kk).length = kk ∧ (rem.drop (kk + 1)).length = r - (kk + 1) ∧ r ≤ 40 ∧ kk < r) := Lib.hid ⟨by rw [List.length_take]; omega, by rw [List.length_drop, HR.out.1], by omega, hkk⟩
          have HLN := HLN2
          have HTS := Lib.hid hts
          have HDS := Lib.hid hds
          have HAD := Lib.hid hAD
          clear hkl e2 hrr hrc hts hds hctl hAD hnd HLN2
          obtain ⟨we, hwe⟩ : ∃ W, wr = W := ⟨_, rfl⟩
          rw [hwe] at HROW HAB HAC HB HTS HDS hcell ⊢
          clear hwe
          have HSZR : Hid (w4.heap.size ≤ we.heap.size) := Lib.hid (by have q := HROW.out.lt (k := lg) rfl; omega)
          go_upto_region 17 with (fail)
          refine Reg.region_inv (by kernel_rfl) (fun i => ([none, some (.slice (some ⟨lg, 0, none⟩) r lc), some (.int .i64 (kk : Int)), some (.slice (some ⟨lg, 0, none⟩) kk lc), none, some (.slice (some ⟨lg, 0, none⟩) r lc), some (.int .i64 (kk : Int)), some (.int .i64 ((kk + 1 : Nat) : Int)), some (.slice (some AD) (r - (kk + 1)) (lc - (kk + 1))), none, none] : List (Option Value)).getD i none) (fun D V W => ApG 3 1 iv we (D 0) (cond (D 9) (V 9) (cond (D 4) (V 4) (V 0))) (cond (D 9) ((rem.take kk) ++ (rem.drop (kk + 1))) (cond (D 4) (rem.take kk) [])) false (.bool false) (0 : Int) (W) ∧ ((D 10) = true → (V 10) = (V 9) ∧ (D 9) = true)) (fun V => [(some 67, V 0), (some 68, V 1), (some 69, V 2), (some 70, V 3), (some 71, V 4), (some 72, V 5), (some 73, V 6), (some 74, V 7), (some 75, V 8), (some 76, V 9), (some 11, V 10)]) (by kernel_rfl) (by kernel_rfl) (fun V => rfl) ?_ ?_ ?_
          · intro V
            exact ⟨ApG.start (Below.refl _ _).drew _ _ _ _, fun e => (by cases e)⟩
          · intro i o ho
            have hi : i < 11 := (Array.getElem?_eq_some_iff.1 ho).1
            rcases i with _ | _ | _ | _ | _ | _ | _ | _ | _ | _ | _ | i
            rotate_right
            · omega
            all_goals obtain rfl := Option.some.inj ho
            all_goals intro D V ρ wi hE hI hDi hT hF hs hd hk
            · have hD0 : D 0 = false := hDi; have hD4 : D 4 = false := hF 1 4; have hD9 : D 9 = false := hF 2 9; clear hT hF; obtain ⟨h1, h2⟩ := hI
              rw [hD0, hD4, hD9] at h1
              simp only [cond_false] at h1
              exact Reg.Gives.value (v := .slice (some ⟨wi.heap.size, 0, none⟩) 0 0) (w' := wi.alloc (.cells #[] 3)) (by go_simp) ⟨fun x h => (by cases h), by show ApG 3 1 iv we (true) (cond (D 9) (V 9) (cond (D 4) (V 4) (.slice (some ⟨wi.heap.size, 0, none⟩) 0 0))) (cond (D 9) ((rem.take kk) ++ (rem.drop (kk + 1))) (cond (D 4) (rem.take kk) [])) false (.bool false) (0 : Int) (wi.alloc (.cells #[] 3)) ∧ ((D 10) = true → (V 10) = (V 9) ∧ (D 9) = true); rw [hD4, hD9]; simp only [cond_false]; exact ⟨h1.mkz, by rw [hD9] at h2; exact h2⟩⟩
            · have e11 : ρ (.tmp 11) = .slice (some ⟨lg, 0, none⟩) r lc := hs 11; clear hT hF hk
              exact Reg.Gives.value (v := .slice (some ⟨lg, 0, none⟩) r lc) (w' := wi) (by go_simp) ⟨fun x h => Option.some.inj h, hI⟩
            · have e13 : ρ (.tmp 13) = .int .i64 (kk : Int) := hs 13; clear hT hF hk
              exact Reg.Gives.value (v := .int .i64 (kk : Int)) (w' := wi) (by go_simp) ⟨fun x h => Option.some.inj h, hI⟩
            · have e68 : ρ (.tmp 68) = .slice (some ⟨lg, 0, none⟩) r lc := (hd 1 68).trans (hk 1 _ rfl); have e69 : ρ (.tmp 69) = .int .i64 (kk : Int) := (hd 2 69).trans (hk 2 _ rfl); clear hT hF; have z0 := HI.out.1
              have z1 : kk ≤ lc := by have := HI.out; omega
              have z2 : kk ≤ r := by have := HI.out; omega
              have z3 : (kk : Int) ≤ (lc : Int) := by omega
              exact Reg.Gives.value (v := .slice (some ⟨lg, 0, none⟩) kk lc) (w' := wi) (by go_simp) ⟨fun x h => Option.some.inj h, hI⟩
            · have e67 : ρ (.tmp 67) = V 0 := hd 0 67; have e70 : ρ (.tmp 70) = .slice (some ⟨lg, 0, none⟩) kk lc := (hd 3 70).trans (hk 3 _ rfl); have hD0 : D 0 = true := hT 1 0; have hD4 : D 4 = false := hDi; have hD9 : D 9 = false := hF 1 9; clear hT hF; obtain ⟨h1, h2⟩ := hI
              rw [hD0, hD4, hD9] at h1
              simp only [cond_false] at h1
              rw [hD9] at h2
              obtain ⟨A2, n2, c2, w2, hrun, hn⟩ := ApG.app elI (fit_fv fun x : Int => x) h1 (m := (rem.take kk)) (HTS.out wi h1.low) (fun e => by cases e) (by have := HLN.out; simp; omega)
              rw [HLN.out.1] at hrun
              rw [List.nil_append] at hn
              exact Reg.Gives.value (v := .slice A2 n2 c2) (w' := w2) (Reg.exec_append rfl e67 e70 hrun) ⟨fun x h => (by cases h), by show ApG 3 1 iv we (D 0) (cond (D 9) (V 9) (cond (true) (.slice A2 n2 c2) (V 0))) (cond (D 9) ((rem.take kk) ++ (rem.drop (kk + 1))) (cond (true) (rem.take kk) [])) false (.bool false) (0 : Int) (w2) ∧ ((D 10) = true → (V 10) = (V 9) ∧ (D 9) = true); rw [hD0, hD9]; simp only [cond_false, cond_true]; exact ⟨hn, h2⟩⟩
            · have e11 : ρ (.tmp 11) = .slice (some ⟨lg, 0, none⟩) r lc := hs 11; clear hT hF hk
              exact Reg.Gives.value (v := .slice (some ⟨lg, 0, none⟩) r lc) (w' := wi) (by go_simp) ⟨fun x h => Option.some.inj h, hI⟩
            · have e13 : ρ (.tmp 13) = .int .i64 (kk : Int) := hs 13; clear hT hF hk
              exact Reg.Gives.value (v := .int .i64 (kk : Int)) (w' := wi) (by go_simp) ⟨fun x h => Option.some.inj h, hI⟩
            · have e73 : ρ (.tmp 73) = .int .i64 (kk : Int) := (hd 6 73).trans (hk 6 _ rfl); have hc := hE.const; clear hT hF
              have z1 : kk < 41 := by have := HI.out; omega
              have z2 : IntKind.i64.wrap ((kk : Int) + 1) = ((kk + 1 : Nat) : Int) := by rw [IntKind.wrap_i64]; omega
              exact Reg.Gives.value (v := .int .i64 ((kk + 1 : Nat) : Int)) (w' := wi) (by go_simp) ⟨fun x h => Option.some.inj h, hI⟩
            · have e72 : ρ (.tmp 72) = .slice (some ⟨lg, 0, none⟩) r lc := (hd 5 72).trans (hk 5 _ rfl); have e74 : ρ (.tmp 74) = .int .i64 ((kk + 1 : Nat) : Int) := (hd 7 74).trans (hk 7 _ rfl); clear hT hF
              have z1 : kk + 1 ≤ r := by have := HI.out; omega
              have z2 : kk + 1 ≤ lc := by have := HI.out; omega
              have z3 : (0 : Int) ≤ ((kk + 1 : Nat) : Int) := by omega
              have z4 : ((kk + 1 : Nat) : Int) ≤ (r : Int) := by omega
              have z5 := HAD.out
              have z6 : (0 : Int) ≤ (kk : Int) + 1 := by omega
              have z7 : (kk : Int) + 1 ≤ (r : Int) := by omega
              have z8 : ¬ ((r : Int) < (kk : Int) + 1) := by omega
              have z9 : ((kk : Int) + 1).toNat = kk + 1 := by omega
              exact Reg.Gives.value (v := .slice (some AD) (r - (kk + 1)) (lc - (kk + 1))) (w' := wi) (by go_simp) ⟨fun x h => Option.some.inj h, hI⟩
            · have e71 : ρ (.tmp 71) = V 4 := hd 4 71; have e75 : ρ (.tmp 75) = .slice (some AD) (r - (kk + 1)) (lc - (kk + 1)) := (hd 8 75).trans (hk 8 _ rfl); have hD0 : D 0 = true := hT 2 0; have hD4 : D 4 = true := hT 1 4; have hD9 : D 9 = false := hDi; have hD10 : D 10 = false := hF 1 10; clear hT hF; obtain ⟨h1, h2⟩ := hI
              rw [hD0, hD4, hD9] at h1
              simp only [cond_false, cond_true] at h1
              have hD10 : D 10 = false := by cases h : D 10 with | false => rfl | true => have := (h2 h).2; rw [hD9] at this; cases this
              obtain ⟨A2, n2, c2, w2, hrun, hn⟩ := ApG.app elI (fit_fv fun x : Int => x) h1 (m := (rem.drop (kk + 1))) (HDS.out wi h1.low) (fun e => by cases e) (by have := HLN.out; omega)
              rw [HLN.out.2.1] at hrun
              exact Reg.Gives.value (v := .slice A2 n2 c2) (w' := w2) (Reg.exec_append rfl e71 e75 hrun) ⟨fun x h => (by cases h), by show ApG 3 1 iv we (D 0) (cond (true) (.slice A2 n2 c2) (cond (D 4) (V 4) (V 0))) (cond (true) ((rem.take kk) ++ (rem.drop (kk + 1))) (cond (D 4) (rem.take kk) [])) false (.bool false) (0 : Int) (w2) ∧ ((D 10) = true → (V 10) = (.slice A2 n2 c2) ∧ (true) = true); rw [hD0, hD4, hD10]; simp only [cond_true]; exact ⟨hn, fun e => (by cases e)⟩⟩
            · have e76 : ρ (.tmp 76) = V 9 := hd 9 76; have hD9 : D 9 = true := hT 1 9; clear hT hF
              exact Reg.Gives.value (v := V 9) (w' := wi) (by go_simp) ⟨fun x h => (by cases h), by show ApG 3 1 iv we (D 0) (cond (D 9) (V 9) (cond (D 4) (V 4) (V 0))) (cond (D 9) ((rem.take kk) ++ (rem.drop (kk + 1))) (cond (D 4) (rem.take kk) [])) false (.bool false) (0 : Int) (wi) ∧ ((true) = true → (V 9) = (V 9) ∧ (D 9) = true); exact ⟨hI.1, fun _ => ⟨rfl, hD9⟩⟩⟩
          · intro V wf hk hI
            simp only [Reg.putsO, List.foldl_cons, List.foldl_nil, Act.put, List.setIfInBounds_toArray, List.set_cons_succ, List.set_cons_zero]
            replace hI : ApG 3 1 iv we true (cond true (V 9) (cond true (V 4) (V 0))) (cond true ((rem.take kk) ++ (rem.drop (kk + 1))) (cond true (rem.take kk) [])) false (.bool false) (0 : Int) (wf) ∧ (true = true → (V 10) = (V 9) ∧ true = true) := hI
            clear hk
            obtain ⟨hA, h10⟩ := hI
            rw [(h10 rfl).1]
            have hacc := hA.acc rfl
            have hlow := hA.low
            simp only [cond_true] at hacc
            have hacc2 : OwnG 3 1 iv we.heap.size wf (V 9) (cutR rem kk) := hacc
            obtain ⟨L2, c2, e9⟩ := row_slice hacc2
            rw [e9] at hacc2
            rw [e9]
            have HROW6 := Lib.hid (OwnG.up HSZR.out hacc2)
            have HB6 := Lib.hid (HB.out.trans (hlow.mono HB.out.size))
            have HAB6 := Lib.hid (HAB.out.1.later hlow)
            have HAC6 := Lib.hid (HAC.out.1.later hlow)
            have hr2 : (cutR rem kk).length = r - 1 := by have := HCU.out.2; omega
            rw [hr2] at HROW6 HVB HVC ⊢
            have HR2 := Lib.hid hr2
            clear hA h10 hacc hacc2 hlow e9 hr2 HROW HTS HDS HAD
            obtain ⟨wz, hwz⟩ : ∃ z : Int, (if r - 1 = 0 then (1 : Int) else 0) = z := ⟨_, rfl⟩
            rw [hwz] at HVB
            obtain ⟨bz, hbz⟩ : ∃ b, decide (r - 1 = 0) = b := ⟨_, rfl⟩
            have e3 : (((r - 1 : Nat) : Int) == 0) = bz := by
              rw [← hbz]
              by_cases h1 : r - 1 = 0
              · simp [h1]
              · rw [decide_eq_false h1]; exact beq_eq_false_iff_ne.2 (by omega)
            have hwz2 : wz = (if bz then 1 else 0) := by
              rw [← hwz, ← hbz]
              by_cases h1 : r - 1 = 0
              · simp [h1]
              · simp [h1]
            clear hwz hbz
            go_upto_region 19 with (fail)
            go_cut [79] from 77 to 78 (fun v wx => v = .bool bz ∧ wx = wf)
            case first =>
              go_wp2_with fail
              go_meet
              exact ⟨rfl, rfl⟩
            obtain ⟨rfl, hwr⟩ := hcut
            rw [hwr]
            clear hwr e3
            apply_assumption
            go_cut [15] from 80 to 80 (fun v wx => v = .int .i64 wz ∧ wx = wf)
            case first =>
              cases bz with
              | true =>
                have hz : wz = 1 := hwz2
                clear hwz2
                go_wp2_with fail
                go_meet
                exact ⟨by rw [hz], rfl⟩
              | false =>
                have hz : wz = 0 := hwz2
                clear hwz2
                go_wp2_with fail
                go_meet
                exact ⟨by rw [hz], rfl⟩
            obtain ⟨rfl, hwr⟩ := hcut
            rw [hwr]
            clear hwr hwz2
            apply_assumption
            have hvb := Vote_any HAB6.out nd true
            rw [HVB.out.1] at hvb
            have HVB1 := Lib.hid hvb
            clear hvb
            go_wp2_with fail
            refine HVB1.out.mono ?_
            rintro e w7 ⟨rfl, hat7, ho7⟩
            have e5 : (wz != wz) = false := by simp
            have hfb := HAB6.out.foot_in
            rw [HVB.out.2.1] at hat7
            have HAB7 := Lib.hid (And.intro hat7 HVB.out.2.2)
            have HAC7 := Lib.hid (HAC6.out.keep (B1 := 0) ho7 (fun j e => ⟨Nat.zero_le _, (hfb j e).2⟩) fun s hs j e => Or.inl (HAC.out.2.1 s hs j e))
            have HROW7 := Lib.hid (HROW6.out.only ho7 fun j e e2 => by have := (HROW6.out.lt e).1; have := (hfb j e2).2; have := HSZ.out; omega)
            have HB7 := Lib.hid (HB6.out.trans (ho7.below HB6.out.size fun j e => by have := (hfb j e).1; have := HSZ.out; omega))
            clear hat7 ho7 hfb HVB1 HAB6 HAC6 HROW6 HB6
            obtain ⟨y, hy⟩ : ∃ y, decide (r - 1 ≠ ns.length / 2) = y := ⟨_, rfl⟩
            have HVC7 := Lib.hid (HVC.out y hy.symm)
            have HVCC := Lib.hid (Vote_any HAC7.out nd y)
            have e6 : (((r - 1 : Nat) : Int) != ((r0 : Int) / 2)) = y := by
              rw [← hy, HNS.out.1]
              have h1 : ((r0 : Int) / 2) = ((r0 / 2 : Nat) : Int) := by simp
              rw [h1]
              by_cases h2 : r - 1 = r0 / 2
              · simp [h2]
              · rw [decide_eq_true h2]; exact bne_iff_ne.2 (by omega)
            clear hy HVC
            go_wp2_with fail
            refine HVCC.out.mono ?_
            rintro e w8 ⟨rfl, hat8, ho8⟩
            have hfc := HAC7.out.foot_in
            have HAB8 : Hid (CAt w2.heap.size w3.heap.size w8 gb Ab cb t false (voteL (stC false lb) nd true lb) ∧ BInv ns (cutR rem kk) (voteL (stC false lb) nd true lb)) := Lib.hid ⟨HAB7.out.1.keep2 ho8 fun j e => (hfc j e).1, HAB7.out.2⟩
            have HAC8 : Hid (CAt w3.heap.size w4.heap.size w8 gc Ac cc t (voteA ab (stC ab lcx) nd y lcx) (voteL (stC ab lcx) nd y lcx) ∧ Its (fun j => w3.heap.size ≤ j) (voteL (stC ab lcx) nd y lcx) ∧ ((r0 = 0 ∧ voteL (stC ab lcx) nd y lcx = []) ∨ CInv ns (cutR rem kk) (voteA ab (stC ab lcx) nd y lcx) (voteL (stC ab lcx) nd y lcx))) := Lib.hid ⟨hat8, HAC.out.2.1.vote _ _ _, HVC7.out.elim (fun e => by have := HI.out; omega) Or.inr⟩
            have HROW8 := Lib.hid (HROW7.out.only ho8 fun j e e2 => by have := (HROW7.out.lt e).1; have := (hfc j e2).2; omega)
            have HB8 := Lib.hid (HB7.out.trans (ho8.below HB7.out.size fun j e => by have := (hfc j e).1; have := HSZ.out; omega))
            have HR8 : Hid ((cutR rem kk).length = r - 1 ∧ (cutR rem kk).Nodup ∧ ∀ m ∈ cutR rem kk, m ∈ ns) := Lib.hid ⟨HR2.out, HCN.out, HCS.out⟩
            clear hat8 ho8 hfc HVCC HAB7 HAC7 HROW7 HB7 HAB HAC HB HVB HVC7
            go_wp2_with fail
            go_roundw
            case rel => exact ⟨k + 1, r - 1, L2, c2, cutR rem kk, _, _, _, by omega, by go_num, rfl, by omega, HR8, HROW8, HAB8, HAC8, HB8⟩
            case measure => simp [intOf]; omega
        · obtain rfl : r = 0 := by omega
          have hrem : rem = [] := List.eq_nil_of_length_eq_zero HR.out.1
          have hab := HAB.out
          have hac := HAC.out
          rw [hrem] at hab hac
          have hs1 : stC false lb = 1 := by unfold stC; rw [rem_done hab.2.yes]; rfl
          have h1 := State_any hab.1
          rw [hs1] at h1
          have H1 := Lib.hid h1
          have HAC2 := Lib.hid hac
          clear hrem hab hac hs1 h1
          go_wp2_with fail
          refine H1.out.mono ?_
          rintro e w6 ⟨rfl, hb6⟩
          have HB6 := Lib.hid (HB.out.trans (hb6.mono HB.out.size))
          by_cases h0 : r0 = 0
          · have e3 : ((r0 : Int) == 0) = true := by simp [h0]
            clear hb6 H1
            go_wp2_with fail
            go_returns
            exact ⟨rfl, HB6.out⟩
          · have e3 : ((r0 : Int) == 0) = false := by simp; omega
            have hab : ab = true := by
              rcases HAC2.out.2.2 with h2 | h2
              · exact absurd h2.1 h0
              · rw [h2.ab]; exact decide_eq_true (Nat.zero_le _)
            have h2 := State_any (HAC2.out.1.later hb6)
            rw [stC_two.2 hab] at h2
            have H2 := Lib.hid h2
            clear hb6 H1 hab h2
            go_wp2_with fail
            refine H2.out.mono ?_
            rintro e w7 ⟨rfl, hb7⟩
            have HB7 := Lib.hid (HB6.out.trans (hb7.mono HB6.out.size))
            clear hb7 H2
            go_wp2_with fail
            go_returns
            exact ⟨rfl, HB7.out⟩
theorem opened {H : Type} {enc : TypeId × Value → H} {W : World} {base : Nat} {gs : List (DataW H)} (v0 : Value) (d0 : DataW H) (p0 : List MemPlace) (v1 : Value) (d1 : DataW H) (p1 : List MemPlace) (v2 : Value) (d2 : DataW H) (p2 : List MemPlace)
    (o0 : Value.okWide Try.prog W .any base 23 v0) (t0 : DataW.Trod enc Try.prog W 0 (fun _ => true) true 23 v0 d0 p0)
    (o1 : Value.okWide Try.prog W .any base 24 v1) (t1 : DataW.Trod enc Try.prog W 0 (fun _ => true) true 24 v1 d1 p1)
    (o2 : Value.okWide Try.prog W .any base 57 v2) (t2 : DataW.Trod enc Try.prog W 0 (fun _ => true) true 57 v2 d2 p2)
    (hsz : (DataW.weightsEach Try.prog ([23, 24, 57] ++ []) ([d0, d1, d2] ++ gs)).all (· ≤ reachBytes) = true) :
    Calls Try.prog 6 #[v0, v1, v2] W fun e W' => e = .returned (.bool true) ∧ Below W.heap.size W W' := by
  obtain ⟨t, rfl⟩ := arg_tid o0 t0 (Base.small_of hsz (j := 0) rfl rfl)
  obtain ⟨a0, len, cap, rfl⟩ := okWide_slice Try.underlying24 o1
  obtain ⟨O, ps, oc, e, h3, h4⟩ := came_parts (came_of t1 (Base.small_of hsz (j := 1) rfl rfl) (by simp [Value.cells]))
  rw [e]
  obtain ⟨U, us, uc, rfl, h5, h6, h7⟩ := arg_bytes o2 t2 (Base.small_of hsz (j := 2) rfl rfl)
  exact walk t O ps oc U us uc W h3 h4 h5 h6 h7.2.2

theorem contract (H : Type) (enc : TypeId × Value → H) (W : World) (base : Nat) (args : Array Value) (ds gs : List (DataW H)) (before : List MemPlace)
    (hval : ∀ (j : Nat) t v, Try.f6.params[j]? = some t → args[j]? = some v → Value.okWide Try.prog W .any base t v)
    (hW : DataW.Whole enc Try.prog Try.f6.params.toList Rows.voteOrderSpec.vars false W args.toList ds gs before)
    (hsz : (DataW.weightsEach Try.prog (Try.f6.params.toList ++ []) (ds ++ gs)).all (· ≤ reachBytes) = true) :
    Calls Try.prog 6 args W fun e W' => ∃ v, e = .returned v ∧ Rows.voteOrderSpec.post enc Try.prog Try.f6 false true false false W args v W' := by
  have hW0 := hW
  obtain ⟨p, q, hA0, hV, rfl, _, _⟩ := hW
  have hA : DataW.TrodAll enc Try.prog W 0 (fun _ => true) true Try.f6.params.toList args.toList ds p := hA0
  rw [Try.params6] at hA hval hsz
  obtain ⟨v0, vs0, d0, ds0, p0, q0, hargs, rfl, rfl, h0, r0⟩ := trodAll_cons hA
  obtain ⟨v1, vs1, d1, ds1, p1, q1, rfl, rfl, rfl, h1, r1⟩ := trodAll_cons r0
  obtain ⟨v2, vs2, d2, ds2, p2, q2, rfl, rfl, rfl, h2, r2⟩ := trodAll_cons r1
  obtain ⟨rfl, rfl, rfl⟩ := trodAll_nil r2
  obtain rfl : args = #[v0, v1, v2] := by cases args; simp_all
  refine (opened v0 d0 p0 v1 d1 p1 v2 d2 p2 (hval 0 23 v0 rfl rfl) h0 (hval 1 24 v1 rfl rfl) h1 (hval 2 57 v2 rfl rfl) h2 hsz).mono fun e W' ⟨he, hb⟩ => ⟨_, he, ?_⟩
  exact Base.law_post (tb := 4) Base.laidOut (by kernel_rfl) rfl Try.underlying4 rfl (fun l hl => by
    rw [Try.params6] at hl
    match l, hl with
    | [_, _, _], _ => rfl) (by rw [Try.params6]; rfl) hW0 hb

theorem laid_met (os : Os) : laidMet Try.prog Rows.voteOrderRow.laid ((Base.plainWorld os).forCall (fun _ _ => 0) ⟨#[], #[.agg #[.int .i64 0, .int .i64 0, .int .i64 0], .slice none 0 0, .slice none 0 0], []⟩).memory := laidMet_nil _ _
theorem reads (os : Os) {H : Type} (enc : TypeId × Value → H) : ∃ places, DataW.whole enc Try.prog ((Base.plainWorld os).forCall (fun _ _ => 0) ⟨#[], #[.agg #[.int .i64 0, .int .i64 0, .int .i64 0], .slice none 0 0, .slice none 0 0], []⟩).memory Try.f6.params.toList Rows.voteOrderSpec.vars false (#[.agg #[.int .i64 0, .int .i64 0, .int .i64 0], .slice none 0 0, .slice none 0 0] : Array Value).toList 8 = some ([.agg [.lit (.int .i64 0), .lit (.int .i64 0), .lit (.int .i64 0)], .nil, .nil], [], places) :=
  ⟨[], by kernel_rfl⟩

set_option maxRecDepth 100000 in
theorem lifted (os : Os) (started : os.Started) (H : Type) (enc : TypeId × Value → H) (F : Stop.Interp) :
    ReturnsInHanded {} Try.checked os 6 .any ((OpenSpec.ofChange Rows.voteOrderSpec).preRow enc Try.prog Try.f6 Rows.voteOrderRow.domain false Rows.voteOrderRow.laid) (((OpenSpec.ofChange Rows.voteOrderSpec).at F).post enc Try.prog Try.f6 false true false false) := by
  obtain ⟨places, hx⟩ := reads os enc
  refine returnsInHanded_of_row (C := Try.checked) (s := OpenSpec.ofChange Rows.voteOrderSpec) Base.own started (by kernel_rfl) Try.func6
    (witness_row_at (enc := enc) (C := Try.checked) false (Base.plainWorld os) #[.agg #[.int .i64 0, .int .i64 0, .int .i64 0], .slice none 0 0, .slice none 0 0] rfl (by kernel_rfl) (by kernel_rfl) (by kernel_rfl)
      (OpenSpec.preRow_of_cond 8 hx (by kernel_rfl) (fun k hk => by cases hk) (by kernel_rfl) (laid_met os))) ?_
  intro W base args ds gs before hval hW _ _ hsz _ _ _
  exact contract H enc W base args ds gs before hval hW hsz

theorem said : Rows.VoteOrderSaid :=
  OpenClaim.holds_of_cond 6 Try.f6 rfl rfl rfl rfl rfl rfl rfl ⟨rfl, rfl, rfl, rfl, rfl⟩ rfl rfl rfl rfl rfl (by kernel_rfl) Try.func6 (by kernel_rfl)
    (of_decide_eq_true (by kernel_rfl)) (by unfold Func.isWrapper; rw [if_neg (of_decide_eq_false (by kernel_rfl))]; exact ⟨rfl, rfl⟩)
    (fun os started H enc _ F => by rw [OpenClaim.pre_eq_preRow]; exact lifted os started H enc F)
#print axioms said
end Go.Proofs.Ytjeogeablbkhgaa.VoteOrder
