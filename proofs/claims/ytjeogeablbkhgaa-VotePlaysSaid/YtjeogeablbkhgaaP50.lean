/-
  Layer 19: the document's Waits and Items.
  Conditions: none.
-/
import Derived.Test.YtjeogeablbkhgaaP49
import Derived.BigQuiet
namespace Go.Proofs.Ytjeogeablbkhgaa.Vot
set_option maxRecDepth 100000
open Go.RowKit Go.Deep Go.Proofs.Ytjeogeablbkhgaa.Mem Go.Proofs.Ytjeogeablbkhgaa.Item
section
variable {B T g c : Nat} {w w1 : World} {A : Option Addr} {t : Tid} {s : Int} {l : List Sd}
theorem below_dr (w : World) (n : Nat) : Below w.heap.size w (w.drewN n) := below_drewN (Below.refl _ _) n
theorem RWaits_any (h : DAt B T w g A c t s l) (hsc : s = 0 ∨ s = 1 ∨ s = 2) : Calls Try.prog 18 #[.pointer (some ⟨g, 0, none⟩)] w fun e w' => (∃ V n vc, e = .returned (.slice V n vc) ∧ n = (waitsL s l).length ∧ Nums w' V (waitsL s l)) ∧ Below w.heap.size w w' := by
  have hl := h.len
  obtain ⟨n, hn⟩ : ∃ n, l.length = n := ⟨_, rfl⟩
  have HN := Lib.hid hn
  have hnl : n ≤ 40 := by rw [← hn]; exact hl
  have HL := Lib.hid hl
  obtain ⟨wa, hwa⟩ : ∃ W, W = w.alloc (.cells #[] 3) := ⟨_, rfl⟩
  have hba : Below w.heap.size w wa := by rw [hwa]; exact below_alloc _ _
  have hoa : OwnG 3 1 nv w.heap.size wa (.slice (some ⟨w.heap.size, 0, none⟩) 0 0) [] := by rw [hwa]; exact World.ownsRow_made (base := w.heap.size) (e := 3) (size := 1) w #[] 0 (Nat.le_refl _) (Nat.zero_le _) rfl
  have HH := Lib.hid (h.later hba)
  have HLD : Hid (∀ W, Below w.heap.size wa W → DAt B T W g A c t s l) := Lib.hid fun W hb => h.later (hba.trans hb)
  have HBA := Lib.hid hba
  have HOA := Lib.hid hoa
  obtain ⟨lo, hlo⟩ : ∃ x, w.heap.size = x := ⟨_, rfl⟩
  rw [hlo] at HOA HLD
  have HLO := Lib.hid hlo
  clear h hn hl hba hoa hlo
  obtain ⟨PP, hPP⟩ : ∃ P, P = waitB s := ⟨_, rfl⟩
  have HPP := Lib.hid hPP
  clear hPP
  go_enter Try.func18, Try.ntmps18
  go_upto_region 2 with (fail)
  rw [← hwa]
  clear hwa
  go_wp2_with fail
  try rw [HLO.out]
  go_loopw [3, 4] (fun v i wr => ∃ (k : Nat) (V : Option Addr) (nn vc : Nat), k ≤ n ∧ i = .int .i64 (k : Int) ∧ v = .slice V nn vc ∧ Hid (OwnG 3 1 nv lo wr (.slice V nn vc) ((l.take k).filter PP)) ∧ Hid (Below lo wa wr ∧ lo ≤ wr.heap.size) ∧ Hid (DAt B T wr g A c t s l)) (fun _ i _ => n - (intOf i).toNat)
  case atStart => exact ⟨0, _, 0, 0, Nat.zero_le _, rfl, rfl, Lib.hid (by rw [List.take_zero]; exact HOA.out), Lib.hid ⟨Below.refl _ _, by rw [← HLO.out]; exact HBA.out.size⟩, HH⟩
  case round =>
    obtain ⟨k, V, nn, vc, hk, rfl, rfl, HV, HB, HA⟩ := hrel
    have c3 := HA.out.box.cell (j := 3) rfl
    have c4 := HA.out.box.cell (j := 4) rfl
    rw [HN.out] at c3
    by_cases hlt : k < n
    · have HLEN : Hid (((l.take k).filter PP).length ≤ 40) := Lib.hid (filter_len k HL.out)
      have hkl : k < l.length := by rw [HN.out]; exact hlt
      obtain ⟨p, rfl, hel⟩ := HA.out.elem hkl
      obtain ⟨x, hx⟩ : ∃ x, l[k] = x := ⟨_, rfl⟩
      have HTM := Lib.hid (take_more hkl hx)
      rw [hx] at hel
      have x0 : wr.cell? ⟨p, k * 4, none⟩ = _ := hel.cell (j := 0) rfl
      have x2 := hel.cell (j := 2) rfl
      have x3 := hel.cell (j := 3) rfl
      have HWW : Hid (waitB s x = PP x) := Lib.hid (by rw [HPP.out])
      have HAP := Lib.hid (OwnG.more elI (fit_fv fun x : Sd => x.node) HV.out x #[.int .i64 x.node] rfl HB.out.2 (by have := HLEN.out; omega))
      have HFM : Hid ((l.take (k + 1)).filter PP = (l.take k).filter PP ++ (if PP x then [x] else [])) := Lib.hid (filter_more HTM.out)
      obtain ⟨pp, hpp⟩ : ∃ z, PP x = z := ⟨_, rfl⟩
      rw [hpp] at HWW HFM
      obtain ⟨xy, hxy⟩ : ∃ z, x.yes = z := ⟨_, rfl⟩
      obtain ⟨xk, hxk⟩ : ∃ z, x.ack = z := ⟨_, rfl⟩
      have hww := HWW.out
      unfold waitB at hww
      rw [hxy] at x2 hww
      rw [hxk] at x3 hww
      have HW3 := Lib.hid hww
      clear hkl hel hx hpp hxy hxk hww
      go_upto_region 5 with (fail)
      go_cut [48] from 15 to 47 (fun v wx => v = .bool pp ∧ wx = wr)
      case first =>
        rcases hsc with rfl | rfl | rfl
        · cases xy
          all_goals
          · have hp := HW3.out
            simp at hp
            subst hp
            go_wp2_with fail
            go_meet
            exact ⟨rfl, rfl⟩
        · cases xk
          all_goals
          · have hp := HW3.out
            simp at hp
            subst hp
            go_wp2_with fail
            go_meet
            exact ⟨rfl, rfl⟩
        · have hp := HW3.out
          simp at hp
          subst hp
          go_wp2_with fail
          go_meet
          exact ⟨rfl, rfl⟩
      obtain ⟨rfl, hwr⟩ := hcut
      rw [hwr]
      clear hwr
      apply_assumption
      cases pp with
      | true =>
        obtain ⟨V', n', vc', w5, hrun, hrow, hbe⟩ := HAP.out
        have HV5 : Hid (OwnG 3 1 nv lo w5 (.slice V' n' vc') ((l.take (k + 1)).filter PP)) := Lib.hid (by rw [HFM.out]; exact hrow)
        have HB5 : Hid (Below lo wa w5 ∧ lo ≤ w5.heap.size) := Lib.hid ⟨HB.out.1.trans hbe, Nat.le_trans HB.out.2 hbe.size⟩
        have HA5 : Hid (DAt B T w5 g (some ⟨p, 0, none⟩) c t s l) := Lib.hid (HLD.out w5 HB5.out.1)
        have HRUN := Lib.hid hrun
        clear hrun hrow hbe HV HB HA HAP
        go_wp2_with (at_builtin
                     refine Lib.wpList_append_run (wr.alloc (.cells #[.int .i64 x.node] 3)) rfl (.tmp 49) (.tmp 58) 37 37 rfl (.slice V nn vc) (.slice (some ⟨wr.heap.size, 0, none⟩) 1 1) rfl rfl _ _ HRUN.out ?_)
        go_roundw
        case rel => exact ⟨k + 1, V', n', vc', by omega, by go_num, rfl, HV5, HB5, HA5⟩
        case measure => simp [intOf]; omega
      | false =>
        have HV5 : Hid (OwnG 3 1 nv lo wr (.slice V nn vc) ((l.take (k + 1)).filter PP)) := Lib.hid (by rw [HFM.out, if_neg (by decide), List.append_nil]; exact HV.out)
        clear HV HAP x0 x2 x3
        go_wp2_with fail
        go_roundw
        case rel => exact ⟨k + 1, V, nn, vc, by omega, by go_num, rfl, HV5, HB, HA⟩
        case measure => simp [intOf]; omega
    · obtain rfl : k = n := by omega
      have HF : Hid (OwnG 3 1 nv lo wr (.slice V nn vc) (l.filter (waitB s))) := Lib.hid (by have h1 := HV.out; rwa [List.take_of_length_le (Nat.le_of_eq HN.out), HPP.out] at h1)
      go_wp2_with fail
      go_returns
      obtain ⟨k1, k2⟩ := nums_of HF.out
      exact ⟨⟨_, _, _, rfl, k1, k2⟩, HBA.out.trans (by rw [HLO.out]; exact HB.out.1)⟩
theorem join_more {all m L L' : List It} (h : IsJoin all L) (k : IsJoin (L ++ m) L') : IsJoin (all ++ m) L' := ⟨k.rise, fun c => by rw [k.first, List.find?_append, List.find?_append, h.first]⟩
theorem join_small {all L : List It} (h : IsJoin all L) (hc : ∀ x ∈ all, 0 ≤ x.cell ∧ x.cell ≤ 15) : L.length ≤ 16 := by
  have h1 := sub_len (rise_nodup h.rise) (m := (List.range 16).map fun i : Nat => (i : Int)) fun x hx => by
    have h2 := (isJoin_mem h x).1 hx
    obtain ⟨y, hy, rfl⟩ := List.mem_map.1 h2
    have := hc y hy
    exact List.mem_map.2 ⟨y.cell.toNat, List.mem_range.2 (by omega), by omega⟩
  rw [List.length_map, List.length_map, List.length_range] at h1
  exact h1
theorem named_any (ns : List Int) (x : Sd) : named ns x = (decide (ns.length = 0) || ns.any fun m => decide (m = x.node)) := by
  unfold named
  congr 1
  rw [Bool.eq_iff_iff, decide_eq_true_eq, List.any_eq_true]
  constructor
  · intro h; exact ⟨_, h, by simp⟩
  · intro ⟨m, hm, e⟩; have : m = x.node := by simpa using e
    rw [← this]; exact hm
/-- All cells are among those that there are. -/
def Small (l : List Sd) : Prop := ∀ s ∈ l, ∀ x ∈ s.its, 0 ≤ x.cell ∧ x.cell ≤ 15
theorem its_small {l : List Sd} (h : Small l) (P : Sd → Bool) : ∀ x ∈ ((l.filter P).map (·.its)).flatten, 0 ≤ x.cell ∧ x.cell ≤ 15 := fun x hx => by
  obtain ⟨m, hm, hx⟩ := List.mem_flatten.1 hx
  obtain ⟨s, hs, rfl⟩ := List.mem_map.1 hm
  exact h s (List.mem_filter.1 hs).1 x hx
set_option maxHeartbeats 2000000 in
theorem RItems_any (h : DAt B T w g A c t s l) (hsm : Small l) {N : Option Addr} {ns : List Int} {nc : Nat} (hr : IRow w N ns) (hnn : ns.length ≤ 1000) :
    Calls Try.prog 25 #[.pointer (some ⟨g, 0, none⟩), .slice N ns.length nc] w fun e w' => (∃ L V vc, e = .returned (.slice V L.length vc) ∧ IsJoin (itsL ns l) L ∧ Items w' V L) ∧ Below w.heap.size w w' := by
  have hl := h.len
  obtain ⟨n, hn⟩ : ∃ n, l.length = n := ⟨_, rfl⟩
  have HN := Lib.hid hn
  have hnl : n ≤ 40 := by rw [← hn]; exact hl
  have HD := Lib.hid (fun W (hb : Below w.heap.size w W) => h.later hb)
  have HR := Lib.hid (fun W (hb : Below w.heap.size w W) => hr.later hb)
  have HSM := Lib.hid hsm
  obtain ⟨q, hq⟩ : ∃ q, ns.length = q := ⟨_, rfl⟩
  have HQ := Lib.hid hq
  rw [hq] at hnn ⊢
  obtain ⟨wa, hwa⟩ : ∃ W, W = w.alloc (.cells #[] 60) := ⟨_, rfl⟩
  have hba : Below w.heap.size w wa := by rw [hwa]; exact below_alloc _ _
  have HBA := Lib.hid hba
  clear h hn hl hq hr hsm hba
  obtain ⟨PP, hPP⟩ : ∃ P, P = named ns := ⟨_, rfl⟩
  have HPP := Lib.hid hPP
  clear hPP
  go_enter Try.func25, Try.ntmps25
  go_upto_region 2 with (fail)
  rw [← hwa]
  clear hwa
  go_wp2_with fail
  go_loopw [5, 6, 7, 8] (fun v i _ _ wr => ∃ (k : Nat) (V : Option Addr) (r vc : Nat) (L : List It), k ≤ n ∧ i = .int .i64 (k : Int) ∧ v = .slice V r vc ∧ Hid (r = L.length ∧ Items wr V L ∧ (V = none → vc = 0) ∧ IsJoin (((l.take k).filter PP).map (·.its)).flatten L) ∧ Hid (Below w.heap.size w wr)) (fun _ i _ _ _ => n - (intOf i).toNat)
  case atStart => exact ⟨0, _, 0, 0, [], Nat.zero_le _, rfl, rfl, Lib.hid ⟨rfl, items_nil _ _, fun e => (by cases e), ⟨List.Pairwise.nil, fun c => rfl⟩⟩, HBA⟩
  case round =>
    obtain ⟨k, V, r, vc, L, hk, rfl, rfl, HJ, HB⟩ := hrel
    have HA := Lib.hid (HD.out wr HB.out)
    have c3 := HA.out.box.cell (j := 3) rfl
    rw [HN.out] at c3
    by_cases hlt : k < n
    · have hkl : k < l.length := by rw [HN.out]; exact hlt
      obtain ⟨p, rfl, hel⟩ := HA.out.elem hkl
      have hM := List.getElem_mem hkl
      obtain ⟨x, hx⟩ : ∃ x, l[k] = x := ⟨_, rfl⟩
      have HTM := Lib.hid (take_more hkl hx)
      rw [hx] at hel hM
      have hit := HA.out.its x hM
      have hil := HA.out.ilen x hM
      have HIT := Lib.hid hit
      obtain ⟨m, hm⟩ : ∃ m, x.its.length = m := ⟨_, rfl⟩
      have HMM := Lib.hid hm
      have HPX : Hid (PP x = (decide (q = 0) || ns.any fun m => decide (m = x.node))) := Lib.hid (by rw [HPP.out, named_any, HQ.out])
      have HFM : Hid ((((l.take (k + 1)).filter PP).map (·.its)).flatten = (((l.take k).filter PP).map (·.its)).flatten ++ (if PP x then x.its else [])) := Lib.hid (by
        rw [filter_more HTM.out]
        split <;> simp)
      have x0 : wr.cell? ⟨p, k * 4, none⟩ = _ := hel.cell (j := 0) rfl
      have HEL := Lib.hid hel
      have HLS : Hid (L.length ≤ 16) := Lib.hid (join_small HJ.out.2.2.2 (its_small (fun s hs => HSM.out s (List.mem_of_mem_take hs)) PP))
      have HIL : Hid (m ≤ 40) := Lib.hid (by rw [← hm]; exact hil)
      clear hkl hM hx hit hil hm hel
      obtain ⟨wo, hwo⟩ : ∃ W, wr = W := ⟨_, rfl⟩
      rw [hwo] at HJ HB HA HIT HEL x0 c3 ⊢
      clear hwo
      go_upto_region 6 with (fail)
      go_wp2_with fail
      go_loopw [7, 8] (fun nm j wq => ∃ j' : Nat, j' ≤ q ∧ j = .int .i64 (j' : Int) ∧ nm = .bool (decide (q = 0) || (ns.take j').any fun m => decide (m = x.node)) ∧ Hid (Below wo.heap.size wo wq)) (fun _ j _ => q - (intOf j).toNat)
      case atStart => exact ⟨0, Nat.zero_le _, rfl, by by_cases h0 : q = 0 <;> simp [h0], Lib.hid (Below.refl _ _)⟩
      case round =>
        obtain ⟨j, hj, rfl, rfl, HZ⟩ := hrel
        clear x0 c3
        have HBZ := HZ
        by_cases hjq : j < q
        · have hjl : j < ns.length := by rw [HQ.out]; exact hjq
          obtain ⟨b, off, rfl, hc⟩ := (HR.out wr (HB.out.trans (HBZ.out.mono HB.out.size))) j hjl
          obtain ⟨y, hy⟩ : ∃ y, ns[j] = y := ⟨_, rfl⟩
          have htm : ns.take (j + 1) = ns.take j ++ [y] := by rw [List.take_succ_eq_append_getElem hjl, hy]
          rw [hy] at hc
          have c3 := (HA.out.later HBZ.out).box.cell (j := 3) rfl
          rw [HN.out] at c3
          have x0 : wr.cell? ⟨p, k * 4, none⟩ = _ := (HEL.out.later HBZ.out).cell (j := 0) rfl
          have HNX : Hid ((decide (q = 0) || (ns.take (j + 1)).any fun m => decide (m = x.node)) = ((decide (q = 0) || (ns.take j).any fun m => decide (m = x.node)) || decide (y = x.node))) := Lib.hid (by rw [htm, List.any_append]; simp [Bool.or_assoc])
          obtain ⟨nj, hnj⟩ : ∃ z, (decide (q = 0) || (ns.take j).any fun m => decide (m = x.node)) = z := ⟨_, rfl⟩
          rw [hnj] at HNX ⊢
          obtain ⟨yq, hyq⟩ : ∃ z, decide (y = x.node) = z := ⟨_, rfl⟩
          rw [hyq] at HNX
          have f1 : (y == x.node) = yq := by rw [← hyq]; by_cases h : y = x.node <;> simp [h]
          have hpl := HEL.out.lt
          clear hjl hy htm hnj hyq
          cases nj
          all_goals
          · go_upto_region 9 with (fail)
            go_quiet (fail)
            go_wp2_with fail
            go_roundw
            case rel => exact ⟨j + 1, by omega, by go_num, by rw [HNX.out]; rfl, Lib.hid (HBZ.out.trans ((below_dr _ _).mono HBZ.out.size))⟩
            case measure => simp [intOf]; omega
        · obtain rfl : j = q := by omega
          have hpx : PP x = (decide (j = 0) || (ns.take j).any fun m => decide (m = x.node)) := by rw [HPX.out, List.take_of_length_le (Nat.le_of_eq HQ.out)]
          rw [← hpx]
          have HJ2 : Hid (r = L.length ∧ Items wr V L ∧ (V = none → vc = 0) ∧ IsJoin (((l.take k).filter PP).map (·.its)).flatten L) := Lib.hid ⟨HJ.out.1, HJ.out.2.1.later HBZ.out, HJ.out.2.2⟩
          have HB2 := Lib.hid (HB.out.trans (HBZ.out.mono HB.out.size))
          have c3 := (HA.out.later HBZ.out).box.cell (j := 3) rfl
          rw [HN.out] at c3
          have hel := HEL.out.later HBZ.out
          have x1 := hel.cell (j := 1) rfl
          rw [HMM.out] at x1
          have hpl := hel.lt
          have hj := refJoin_any V x.A L x.its vc x.c wr HJ2.out.2.1 (HIT.out.1.later HBZ.out) HJ2.out.2.2.1 HIT.out.2 (by have := HLS.out; omega) (by rw [HMM.out]; have := HIL.out; omega)
          rw [← HJ2.out.1, HMM.out] at hj
          have HRJ := Lib.hid hj
          obtain ⟨pp, hpp⟩ : ∃ z, PP x = z := ⟨_, rfl⟩
          rw [hpp] at HFM ⊢
          clear hpx hel hpp hj HJ HB HA HIT HEL HZ HBZ
          cases pp with
          | true =>
            go_wp2_with fail
            refine HRJ.out.mono ?_
            rintro e w5 ⟨⟨v, L2, rfl, hij, _, hrow⟩, hb5⟩
            have hrow2 : w5.ownsRow wr.heap.size 60 5 v (L2.map It.vals).length (L2.map It.vals).flatten := by rw [List.length_map, ← List.flatMap_def]; exact hrow
            obtain ⟨A2, c2, rfl, hsl, hnil, _⟩ := own_sl hrow2 (fit_items _).len
            rw [List.length_map]
            have HJ5 : Hid (L2.length = L2.length ∧ Items w5 A2 L2 ∧ (A2 = none → c2 = 0) ∧ IsJoin (((l.take (k + 1)).filter PP).map (·.its)).flatten L2) := Lib.hid ⟨rfl, sl_items hsl, hnil, by rw [HFM.out]; exact join_more HJ2.out.2.2.2 hij⟩
            have HB5 := Lib.hid (HB2.out.trans (hb5.mono HB2.out.size))
            obtain ⟨r2, hr2⟩ : ∃ z, L2.length = z := ⟨_, rfl⟩
            have HJ6 : Hid (r2 = L2.length ∧ Items w5 A2 L2 ∧ (A2 = none → c2 = 0) ∧ IsJoin (((l.take (k + 1)).filter PP).map (·.its)).flatten L2) := Lib.hid ⟨hr2.symm, HJ5.out.2⟩
            rw [hr2]
            clear hij hrow hrow2 hb5 hsl hnil hr2 HJ5 HRJ c3 x1
            go_wp2_with fail
            go_roundw
            case rel => exact ⟨k + 1, A2, r2, c2, L2, by omega, by go_num, rfl, HJ6, HB5⟩
            case measure => simp [intOf]; omega
          | false =>
            have HJ5 : Hid (r = L.length ∧ Items wr V L ∧ (V = none → vc = 0) ∧ IsJoin (((l.take (k + 1)).filter PP).map (·.its)).flatten L) := Lib.hid ⟨HJ2.out.1, HJ2.out.2.1, HJ2.out.2.2.1, by rw [HFM.out, if_neg (by decide), List.append_nil]; exact HJ2.out.2.2.2⟩
            clear HRJ HJ2 c3 x1
            go_wp2_with fail
            go_roundw
            case rel => exact ⟨k + 1, V, r, vc, L, by omega, by go_num, rfl, HJ5, HB2⟩
            case measure => simp [intOf]; omega
    · obtain rfl : k = n := by omega
      have HF : Hid (r = L.length ∧ Items wr V L ∧ IsJoin (itsL ns l) L) := Lib.hid (by
        have h1 := HJ.out
        rw [List.take_of_length_le (Nat.le_of_eq HN.out), HPP.out] at h1
        exact ⟨h1.1, h1.2.1, h1.2.2.2⟩)
      go_wp2_with fail
      go_returns
      exact ⟨⟨L, V, vc, ret_val (congrArg (fun z => Value.slice V z vc) HF.out.1), HF.out.2.2, HF.out.2.1⟩, HB.out⟩
end
end Go.Proofs.Ytjeogeablbkhgaa.Vot
