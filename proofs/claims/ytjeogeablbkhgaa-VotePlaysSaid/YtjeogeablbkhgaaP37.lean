/-
  Layer 19: Ack and Items of a ballot.
  Conditions: none.
-/
import Derived.Test.YtjeogeablbkhgaaP36
import Derived.Test.YtjeogeablbkhgaaP28
namespace Go.Proofs.Ytjeogeablbkhgaa.Vot
set_option maxRecDepth 100000
open Go.RowKit Go.Deep Go.Proofs.Ytjeogeablbkhgaa.Mem Go.Proofs.Ytjeogeablbkhgaa.Item
section
variable {B T g c : Nat} {w w1 : World} {A : Option Addr} {t : Tid} {ab : Bool} {l : List Sd}
theorem akns_more {ns : List Int} {k : Nat} (hk : k < ns.length) (l : List Sd) : aknsL (ns.take (k + 1)) l = aknL ns[k] (aknsL (ns.take k) l) := by
  unfold aknsL
  rw [List.take_succ_eq_append_getElem hk, List.foldl_append]
  rfl
theorem akns_len (ns : List Int) : ∀ l : List Sd, (aknsL ns l).length = l.length := by
  unfold aknsL
  induction ns with
  | nil => intro l; rfl
  | cons n ns ih => intro l; rw [List.foldl_cons, ih, akn_len]
set_option maxHeartbeats 1000000 in
theorem Ack_any (h : CAt B T w g A c t ab l) {N : Option Addr} {ns : List Int} {nc : Nat} (hr : IRow w N ns) (hn : ns.length ≤ 1000) (hN : ∀ k, blk N = some k → ns ≠ [] → ¬ foot g A k) :
    Calls Try.prog 17 #[.pointer (some ⟨g, 0, none⟩), .slice N ns.length nc] w fun e w' =>
    e = .returned (.bool (decide ((waitsL (stC ab l) (ackL (stC ab l) ns l)).length = 0))) ∧ CAt B T w' g A c t ab (ackL (stC ab l) ns l) ∧ Only (foot g A) w w' := by
  have h1 := State_any h
  have HAS := Lib.hid (ackL_st ab ns l)
  obtain ⟨s, hs⟩ : ∃ s, stC ab l = s := ⟨_, rfl⟩
  rw [hs] at h1 HAS ⊢
  have HS := Lib.hid hs
  have H1 := Lib.hid h1
  have HH := Lib.hid h
  have HR : Hid (∀ wr, Only (foot g A) w wr → IRow wr N ns) := Lib.hid fun wr ho k hk => by
    obtain ⟨b, off, e, hc⟩ := hr k hk
    subst e
    have hnf : ¬ foot g A b := hN b rfl (fun e => by rw [e] at hk; simp at hk)
    refine ⟨b, off, rfl, ?_⟩
    have hb := ho.block b (block_of_cell hc) hnf
    unfold World.cell? at hc ⊢
    rw [hb]
    exact hc
  obtain ⟨n, hnn⟩ : ∃ n, ns.length = n := ⟨_, rfl⟩
  rw [hnn] at hn ⊢
  have HN := Lib.hid hnn
  obtain ⟨qq, hqq⟩ : ∃ q, decide ((waitsL s (ackL s ns l)).length = 0) = q := ⟨_, rfl⟩
  rw [hqq]
  have HQQ := Lib.hid hqq
  clear h h1 hs hr hnn hN hqq
  go_enter Try.func17, Try.ntmps17
  go_wp2_with fail
  refine H1.out.mono ?_
  rintro e w1 ⟨rfl, hb1⟩
  have HA1 := Lib.hid (HH.out.later hb1)
  have HB1 := Lib.hid hb1
  clear hb1 H1 HH
  by_cases h1 : s = 1
  · have e1 : (s != 1) = false := by simp [h1]
    have HK : Hid (ackL s ns l = aknsL ns l) := Lib.hid (if_pos h1)
    clear h1
    go_wp2_with fail
    go_loopw [6, 7, 15] (fun _ _ i wr => ∃ k : Nat, k ≤ n ∧ i = .int .i64 (k : Int) ∧ Hid (CAt B T wr g A c t ab (aknsL (ns.take k) l)) ∧ Hid (Only (foot g A) w wr)) (fun _ _ i _ => n - (intOf i).toNat)
    case atStart => exact ⟨0, Nat.zero_le _, rfl, HA1, Lib.hid (Only.of_below HB1.out)⟩
    case round =>
      obtain ⟨k, hk, rfl, HA, HO⟩ := hrel
      by_cases hlt : k < n
      · have hkl : k < ns.length := by rw [HN.out]; exact hlt
        obtain ⟨b, off, rfl, hc⟩ := HR.out wr HO.out k hkl
        have HM := Lib.hid (akns_more hkl l)
        obtain ⟨y, hy⟩ : ∃ y, ns[k] = y := ⟨_, rfl⟩
        rw [hy] at hc HM
        have HPT := Lib.hid (part_any HA.out y)
        clear hkl hy
        go_wp2_with fail
        refine HPT.out.mono ?_
        rintro e w2 ⟨⟨v, rfl, hv⟩, hb2⟩
        have HA2 := Lib.hid (HA.out.later hb2)
        have HO2 : Hid (Only (foot g A) w w2) := Lib.hid (HO.out.trans (S' := fun _ => False) (Only.of_below hb2) fun _ _ e => e.elim)
        clear hb2 HPT HA HO hc
        rcases hv with ⟨hno, rfl⟩ | ⟨j, hj, p, hjn, rfl, rfl⟩
        · have HA3 : Hid (CAt B T w2 g A c t ab (aknsL (ns.take (k + 1)) l)) := Lib.hid (by rw [HM.out, akn_none hno]; exact HA2.out)
          clear hno HA2
          go_wp2_with fail
          go_roundw
          case rel => exact ⟨k + 1, by omega, by go_num, HA3, HO2⟩
          case measure => simp [intOf]; omega
        · obtain ⟨hA3, ho3⟩ := HA2.out.setK hj
          rw [akn_set HA2.out.uniq hj hjn, ← HM.out] at hA3
          obtain ⟨p2, hp2, hel⟩ := HA2.out.elem hj
          obtain rfl : p = p2 := by simpa using hp2
          have f3 := hel.frozen (j := 3) (by simp [Sd.vals])
          have x3 := hel.cell (j := 3) rfl
          obtain ⟨w3, hw3⟩ : ∃ W, w2.setCell ⟨p, j * 4 + 3, none⟩ (.bool true) = W := ⟨_, rfl⟩
          rw [hw3] at hA3 ho3
          have HW := Lib.hid hw3
          have HA3 := Lib.hid hA3
          have HO3 : Hid (Only (foot g (some ⟨p, 0, none⟩)) w w3) := Lib.hid (HO2.out.trans (ho3.mono (S' := foot g (some ⟨p, 0, none⟩)) fun i _ e => Or.inr (by rw [e]; rfl)) fun _ _ e => e)
          clear hA3 ho3 hel hp2 hw3 hjn HA2 HO2
          go_upto_region 9 with (fail)
          rw [HW.out]
          clear HW f3 x3 hj
          go_wp2_with fail
          go_roundw
          case rel => exact ⟨k + 1, by omega, by go_num, HA3, HO3⟩
          case measure => simp [intOf]; omega
      · obtain rfl : k = n := by omega
        have HF : Hid (CAt B T wr g A c t ab (ackL s ns l)) := Lib.hid (by have h1 := HA.out; rwa [List.take_of_length_le (Nat.le_of_eq HN.out), ← HK.out] at h1)
        have h3 := Over_any HF.out
        rw [HAS.out, HQQ.out] at h3
        have H3 := Lib.hid h3
        clear h3
        go_wp2_with fail
        refine H3.out.mono ?_
        rintro e w4 ⟨rfl, hb4⟩
        have HA4 := Lib.hid (HF.out.later hb4)
        have HO4 : Hid (Only (foot g A) w w4) := Lib.hid (HO.out.trans (S' := fun _ => False) (Only.of_below hb4) fun _ _ e => e.elim)
        clear hb4 H3
        go_wp2_with fail
        go_returns
        exact ⟨rfl, HA4.out, HO4.out⟩
  · have e1 : (s != 1) = true := by simpa using h1
    have HK : Hid (ackL s ns l = l) := Lib.hid (if_neg h1)
    have h3 := Over_any HA1.out
    have hz := HQQ.out
    rw [HK.out] at hz
    rw [HS.out, hz] at h3
    have H3 := Lib.hid h3
    clear h3 hz h1
    go_wp2_with fail
    refine H3.out.mono ?_
    rintro e w4 ⟨rfl, hb4⟩
    have HA4 := Lib.hid (HA1.out.later hb4)
    have HO4 : Hid (Only (foot g A) w w4) := Lib.hid ((Only.of_below HB1.out).trans (S' := fun _ => False) (Only.of_below hb4) fun _ _ e => e.elim)
    clear hb4 H3
    go_wp2_with fail
    go_returns
    exact ⟨rfl, by rw [HK.out]; exact HA4.out, HO4.out⟩
theorem join_in {w w' : World} {L : List It} {A : Option Addr} {c : Nat} (h : (L = [] ∧ A = none ∧ c = 0) ∨ ∃ b ms, A = some ⟨b, 0, none⟩ ∧ w.heap.size ≤ b ∧ L.length ≤ c ∧ Cells w' b 60 (flat L ++ ms)) : Items w' A L := by
  rcases h with ⟨rfl, _, _⟩ | ⟨b, ms, rfl, _, _, h⟩
  · exact items_nil _ _
  · intro k hk
    have hx : ∀ j (hj : j < 5), (flat L ++ ms)[k * 5 + j]? = L[k].vals[j]? := fun j hj => by
      rw [List.getElem?_append_left (by rw [flat_len]; omega)]
      exact flat_at L k hk j hj
    refine ⟨b, 0, rfl, ?_⟩
    rw [Nat.zero_add]
    exact ⟨h.cell (j := k * 5) (hx 0 (by omega)), h.cell (hx 1 (by omega)), h.cell (hx 2 (by omega)), h.cell (hx 3 (by omega)), h.cell (hx 4 (by omega))⟩
theorem all_its (P : Sd → Bool) (l : List Sd) : allOf ((l.filter P).map trip) = ((l.filter P).map (·.its)).flatten := by
  unfold allOf
  rw [List.map_map]
  rfl
theorem its_len : ∀ (l : List Sd), (∀ s ∈ l, s.its.length ≤ 40) → ((l.map (·.its)).flatten).length ≤ l.length * 40
  | [], _ => by simp
  | x :: l, h => by
    rw [List.map_cons, List.flatten_cons, List.length_append, List.length_cons]
    have := its_len l fun s hs => h s (List.mem_cons_of_mem _ hs)
    have := h x List.mem_cons_self
    omega
set_option maxHeartbeats 1000000 in
theorem Items_any (h : CAt B T w g A c t ab l) {N : Option Addr} {ns : List Int} {nc : Nat} (hr : IRow w N ns) (hnn : ns.length ≤ 1000) :
    Calls Try.prog 24 #[.pointer (some ⟨g, 0, none⟩), .slice N ns.length nc] w fun e w' => (∃ L V vc, e = .returned (.slice V L.length vc) ∧ IsJoin (itsL ns l) L ∧ Items w' V L) ∧ Below w.heap.size w w' := by
  have hl := h.len
  have c3 := h.box.cell (j := 3) rfl
  obtain ⟨n, hn⟩ : ∃ n, l.length = n := ⟨_, rfl⟩
  rw [hn] at c3
  have HN := Lib.hid hn
  have hnl : n ≤ 40 := by rw [← hn]; exact hl
  have HL := Lib.hid hl
  have HH := Lib.hid h
  have HR := Lib.hid hr
  obtain ⟨q, hq⟩ : ∃ q, ns.length = q := ⟨_, rfl⟩
  have HQ := Lib.hid (And.intro hq hnn)
  rw [hq] at hnn ⊢
  clear h hn hl hq hr
  obtain ⟨PP, hPP⟩ : ∃ P, P = named ns := ⟨_, rfl⟩
  have HPP := Lib.hid hPP
  clear hPP
  go_enter Try.func24, Try.ntmps24
  go_wp2_with fail
  clear c3
  go_loopw [5, 7, 15] (fun v _ i wr => ∃ (k : Nat) (V : Option Addr) (nn vc : Nat), k ≤ n ∧ i = .int .i64 (k : Int) ∧ v = .slice V nn vc ∧ Hid (OwnG 49 1 lv w.heap.size wr (.slice V nn vc) ((l.take k).filter PP)) ∧ Hid (Below w.heap.size w wr)) (fun _ _ i _ => n - (intOf i).toNat)
  case atStart => exact ⟨0, none, 0, 0, Nat.zero_le _, rfl, rfl, Lib.hid (by rw [List.take_zero]; exact OwnG.nil _ _ _ _ _), Lib.hid (Below.refl _ _)⟩
  case round =>
    obtain ⟨k, V, nn, vc, hk, rfl, rfl, HV, HB⟩ := hrel
    by_cases hlt : k < n
    · have HLEN : Hid (((l.take k).filter PP).length ≤ 40) := Lib.hid (filter_len k HL.out)
      have hkl : k < l.length := by rw [HN.out]; exact hlt
      obtain ⟨p, rfl, hel⟩ := (HH.out.later HB.out).elem hkl
      have HM := Lib.hid (List.getElem_mem hkl)
      obtain ⟨s, hs⟩ : ∃ s, l[k] = s := ⟨_, rfl⟩
      have HTM := Lib.hid (take_more hkl hs)
      rw [hs] at hel HM
      have x0 : wr.cell? ⟨p, k * 4, none⟩ = _ := hel.cell (j := 0) rfl
      have x1 := hel.cell (j := 1) rfl
      have x2 := hel.cell (j := 2) rfl
      have x3 := hel.cell (j := 3) rfl
      obtain ⟨hbb, hcb⟩ := copy_said wr s
      obtain ⟨m, hm⟩ : ∃ m, s.its.length = m := ⟨_, rfl⟩
      have HMM := Lib.hid hm
      unfold Sd.vals at hcb
      rw [hm] at x1 hbb hcb
      obtain ⟨wb, hwb⟩ : ∃ W, W = wr.alloc (.cells #[.int .i64 s.node, .slice s.A m s.c, .bool s.yes, .bool s.ack] 68) := ⟨_, rfl⟩
      rw [← hwb] at hbb hcb
      have y0 : wb.cell? ⟨wr.heap.size, 0, none⟩ = _ := hcb.cell (j := 0) rfl
      have y1 := hcb.cell (j := 1) rfl
      have y2 := hcb.cell (j := 2) rfl
      have y3 := hcb.cell (j := 3) rfl
      have HB2 := Lib.hid (HB.out.trans (hbb.mono HB.out.size))
      have HV2 := Lib.hid (HV.out.later hbb)
      clear hkl hel hs hbb hcb hm HB HV
      go_upto_region 7 with (fail)
      rw [← hwb]
      clear hwb x0 x1 x2 x3
      by_cases hq0 : q = 0
      · have e1 : ((q : Int) == 0) = true := by simp [hq0]
        have HWT : Hid (named ns s = true) := Lib.hid (by unfold named; rw [HQ.out.1, hq0]; rfl)
        clear hq0
        obtain ⟨V', n', vc', w5, hrun, hrow, hbe⟩ := OwnG.more el_lists fit_lv HV2.out s #[.slice s.A s.its.length s.c] rfl HB2.out.size (by have := HLEN.out; omega)
        rw [HMM.out] at hrun
        have HV5 := Lib.hid (show OwnG 49 1 lv w.heap.size w5 (.slice V' n' vc') ((l.take (k + 1)).filter PP) by rw [HPP.out, filter_more HTM.out, HWT.out]; rw [HPP.out] at hrow; exact hrow)
        have HB5 := Lib.hid (HB2.out.trans hbe)
        have HRUN := Lib.hid hrun
        clear hrun hrow hbe HV2 HB2
        go_wp2_with (at_builtin
                     refine Lib.wpList_append_run (wb.alloc (.cells #[.slice s.A m s.c] 49)) rfl (.tmp 29) (.tmp 33) 76 76 rfl (.slice V nn vc) (.slice (some ⟨wb.heap.size, 0, none⟩) 1 1) rfl rfl _ _ HRUN.out ?_)
        go_roundw
        case rel => exact ⟨k + 1, V', n', vc', by omega, by go_num, rfl, HV5, HB5⟩
        case measure => simp [intOf]; omega
      · have e1 : ((q : Int) == 0) = false := by simpa using hq0
        have HCT := Lib.hid (contains_any N ns nc s.node wb (HR.out.later HB2.out) HQ.out.2)
        rw [HQ.out.1] at HCT
        obtain ⟨d, hd⟩ : ∃ d, decide (s.node ∈ ns) = d := ⟨_, rfl⟩
        rw [hd] at HCT
        have HWT : Hid (named ns s = d) := Lib.hid (by unfold named; rw [HQ.out.1, decide_eq_false hq0, hd]; rfl)
        clear hq0 hd
        go_wp2_with fail
        refine HCT.out.mono ?_
        rintro e w7 ⟨rfl, rfl⟩
        clear HCT
        cases d with
        | true =>
          obtain ⟨V', n', vc', w5, hrun, hrow, hbe⟩ := OwnG.more el_lists fit_lv HV2.out s #[.slice s.A s.its.length s.c] rfl HB2.out.size (by have := HLEN.out; omega)
          rw [HMM.out] at hrun
          have HV5 := Lib.hid (show OwnG 49 1 lv w.heap.size w5 (.slice V' n' vc') ((l.take (k + 1)).filter PP) by rw [HPP.out, filter_more HTM.out, HWT.out]; rw [HPP.out] at hrow; exact hrow)
          have HB5 := Lib.hid (HB2.out.trans hbe)
          have HRUN := Lib.hid hrun
          clear hrun hrow hbe HV2 HB2
          go_wp2_with (at_builtin
                       refine Lib.wpList_append_run (w7.alloc (.cells #[.slice s.A m s.c] 49)) rfl (.tmp 29) (.tmp 33) 76 76 rfl (.slice V nn vc) (.slice (some ⟨w7.heap.size, 0, none⟩) 1 1) rfl rfl _ _ HRUN.out ?_)
          go_roundw
          case rel => exact ⟨k + 1, V', n', vc', by omega, by go_num, rfl, HV5, HB5⟩
          case measure => simp [intOf]; omega
        | false =>
          have HV5 := Lib.hid (show OwnG 49 1 lv w.heap.size w7 (.slice V nn vc) ((l.take (k + 1)).filter PP) by rw [HPP.out, filter_more HTM.out, HWT.out, if_neg (by decide), List.append_nil]; rw [← HPP.out]; exact HV2.out)
          clear HV2
          go_wp2_with fail
          go_roundw
          case rel => exact ⟨k + 1, V, nn, vc, by omega, by go_num, rfl, HV5, HB2⟩
          case measure => simp [intOf]; omega
    · obtain rfl : k = n := by omega
      have hF : OwnG 49 1 lv w.heap.size wr (.slice V nn vc) (l.filter (named ns)) := by have h1 := HV.out; rwa [List.take_of_length_le (Nat.le_of_eq HN.out), HPP.out] at h1
      have hHr := HH.out.later HB.out
      obtain ⟨e1, hls⟩ := own_lists hF fun s hs => hHr.its s (List.mem_filter.1 hs).1
      have hfl : (l.filter (named ns)).length ≤ 40 := Nat.le_trans (List.length_filter_le _ _) (by rw [HN.out]; exact hnl)
      have hj := join_any V ((l.filter (named ns)).map trip) vc wr hls (by rw [List.length_map]; omega) (by
        rw [all_its]
        have := its_len (l.filter (named ns)) fun s hs => hHr.ilen s (List.mem_filter.1 hs).1
        omega)
      rw [← e1, all_its] at hj
      have HJ := Lib.hid hj
      clear hF hHr e1 hls hfl hj
      go_wp2_with fail
      refine HJ.out.mono ?_
      rintro e w4 ⟨⟨v, rfl, hjo⟩, hb4⟩
      obtain ⟨L, A9, c9, hL, rfl, hcase⟩ := hjo
      have HB4 := Lib.hid (HB.out.trans (hb4.mono HB.out.size))
      have HI9 := Lib.hid (join_in hcase)
      have HL9 := Lib.hid hL
      obtain ⟨r, hr⟩ : ∃ r, L.length = r := ⟨_, rfl⟩
      have HRR := Lib.hid hr
      rw [hr]
      clear hb4 hcase hL HJ hr
      go_wp2_with fail
      go_returns
      exact ⟨⟨L, A9, c9, ret_val (congrArg (fun z => Value.slice A9 z c9) HRR.out.symm), HL9.out, HI9.out⟩, HB4.out⟩
end
end Go.Proofs.Ytjeogeablbkhgaa.Vot
