/-
  Layer 14, the document's session: Send. Conditions: none.
-/
import Derived.Test.YtjfejfhdohpfbaaSesSnd
namespace Go.Proofs.Ytjfejfhdohpfbaa.Ses
set_option maxRecDepth 100000
open Go.RowKit Go.Deep Go.Proofs.Ytjfejfhdohpfbaa.Mem Go.Proofs.Ytjfejfhdohpfbaa.Win

section
variable {B rb N : Nat} {F : Nat → Prop} {w : World} {S : Sm}
set_option maxHeartbeats 4000000 in
theorem RSend_good (h : RAt B F w rb S) (hS : Sok N S) (hN : N ≤ 1000000000000) (hB : B ≤ w.heap.size) (x : Int) (SA : Option Addr) (ss : List ByteArray) (cap : Nat) (hs : Strs w SA ss) (hsb : ∀ ad, SA = some ad → ss ≠ [] → ad.block < B) (hl : ss.length ≤ 1000000)
    (ho2 : other S x = true) (hlg : anyLong ss = false) (hroom : roomP (peerOf S x) ss.length = true) :
    Calls Try.prog 19 #[.pointer (some ⟨rb, 0, none⟩), .int .i64 x, .slice SA ss.length cap] w (SndEnds B rb F w (dataL x S.epoch (peerOf S x).known (newHd (peerOf S x).last ss), 0, putP S x (holdP (peerOf S x) ss))) := by
  have hF := h.low
  obtain ⟨pb, pc, As, cs, Ds, ds, hx⟩ := h
  have HO := Lib.hid (ROther_any hx x)
  rw [ho2] at HO
  obtain ⟨n, hn⟩ : ∃ n, ss.length = n := ⟨_, rfl⟩
  obtain ⟨i, hi, rfl, hnode⟩ := other_at ho2
  rw [peerOf_at hi] at hroom
  rw [peerOf_at hi, putP_at]
  obtain ⟨p, hp⟩ : ∃ p, S.peers[i]'hi = p := ⟨_, rfl⟩
  rw [hp] at hroom
  rw [hp]
  have hpk := hS.peers _ (List.getElem_mem hi)
  rw [hp] at hpk
  have hn16 := hS.n2
  have hpi := hx.peer i hi
  rw [hp] at hpi
  have HSZ : Hid (∀ k (hk : k < ss.length), ss[k].size ≤ 4032) := Lib.hid fun k hk => anyLong_mem hlg (List.getElem_mem hk)
  have HS := Lib.hid hs
  have HN := Lib.hid hn
  have HI := Lib.hid hi
  have HP : Hid (∀ hz : i < S.peers.length, S.peers[i]'hz = p) := Lib.hid fun _ => hp
  have hr := of_decide_eq_true hroom
  rw [hn] at hroom hr hl
  obtain ⟨wb, hwb⟩ : ∃ W, W = w.alloc (.cells #[.slice (As i) p.L.length (cs i), .int .i64 p.known, .int .i64 (p.last + 1), .slice (Ds i) p.held.length (ds i)] 66) := ⟨_, rfl⟩
  have hbb : Below w.heap.size w wb := by rw [hwb]; exact below_alloc _ _
  have hcb : Cells wb w.heap.size 66 (rpv p (As i) (cs i) (Ds i) (ds i)) := by rw [hwb]; exact cells_new _ _ _ _ rfl
  have hWk : Wk ⟨B, rb, pb, pc, F, w⟩ S F As cs Ds ds i wb w.heap.size p (As i) (cs i) (Ds i) (ds i) none 0 [] := by
    refine ⟨hx.later hbb, (RStep.same ⟨pb, pc, As, cs, Ds, ds, hx⟩ (Below.refl _ _)).after hbb, hcb, OwnG.later hpi.2.win hbb, OwnG.later hpi.2.row hbb, OwnG.nil _ _ _ _ _, fun e => ?_, Nat.le_refl _, fun k e => (by cases e), fun k e => ⟨fun e2 => ?_, Or.inl e.symm⟩, fun k e => ⟨fun e2 => ?_, Or.inl e.symm, fun e2 => hx.off i i k hi hi e e2⟩, hB, hi⟩
    · exact Nat.lt_irrefl _ (hx.lt _ e)
    · have := (hpi.2.row.lt k (by rw [own_blk]; exact e)).2
      omega
    · have := (hpi.2.win.lt k (by rw [own_blk]; exact e)).2
      omega
  have HTAIL : Hid (∀ {cc : Code} (hc : cc = sub [1, 1, 1, 1, 1, 1] ((Try.f19.body).getD .skip)), cc = cc) := Lib.hid fun _ => rfl
  have HWK := Lib.hid hWk
  have HPK := Lib.hid hpk
  have HFL := Lib.hid hF
  have HSB := Lib.hid hsb
  have HROOM := Lib.hid hroom
  obtain ⟨m, hm⟩ : ∃ m, S.peers.length = m := ⟨_, rfl⟩
  have him : i < m := by rw [← hm]; exact hi
  have hm16 : m ≤ 16 := by rw [← hm]; exact hn16
  have HN16 := Lib.hid hn16
  have c2 := hx.cel.cell (j := 2) rfl
  rw [hm] at c2
  have z0 : w.cell? ⟨pb, i * 4, none⟩ = _ := hpi.1.cell (j := 0) rfl
  have z1 := hpi.1.cell (j := 1) rfl
  have z2 := hpi.1.cell (j := 2) rfl
  have z3 := hpi.1.cell (j := 3) rfl
  have hiw : IntKind.i64.wrap ((i : Int) + 1 - 1) = (i : Int) := by rw [IntKind.wrap_i64]; omega
  have x2 := hcb.cell (j := 2) rfl
  have x3 := hcb.cell (j := 3) rfl
  have hl0 := hpk.l0
  have hl1 := hpk.l1
  have w1a : IntKind.i64.wrap (p.last + 1 + (n : Int)) = p.last + 1 + (n : Int) := by rw [IntKind.wrap_i64]; omega
  have w1b : IntKind.i64.wrap (p.last + 1 + (n : Int) - 1) = p.last + (n : Int) := by rw [IntKind.wrap_i64]; omega
  obtain ⟨hl', hhl⟩ : ∃ m, p.held.length = m := ⟨_, rfl⟩
  have w2a : IntKind.i64.wrap ((hl' : Int) + (n : Int)) = (hl' : Int) + (n : Int) := by rw [IntKind.wrap_i64]; omega
  have e1 : decide ((hl' : Int) + (n : Int) > 32) = false := decide_eq_false (by rw [hhl] at hr; omega)
  rw [hhl] at z3 x3 hwb
  rw [hn]
  have HH64 : Hid (∀ a, p.held[0]? = some a → 1 ≤ a.seq ∧ a.seq ≤ (N : Int) ∧ p.last + (n : Int) < a.seq + 64) := Lib.hid fun a ha => by
    have hak := hpk.held a (List.mem_of_getElem? ha)
    exact ⟨hak.s0, hak.s1, hr.2 a ha⟩
  have HROW := Lib.hid hpi.2.row
  have HBB := Lib.hid hbb
  have HHL := Lib.hid hhl
  clear hx hS hs hsb hn hpk hp hi hr hF hlg hroom hnode ho2 hm hn16 hWk hcb hbb hpi hhl
  go_enter Try.func19, Try.ntmps19
  go_wp2_with fail
  refine HO.out.mono ?_
  rintro e w1 ⟨rfl, rfl⟩
  go_wp2_with fail
  go_loopw [8] (fun j wr => ∃ k : Nat, k ≤ n ∧ j = .int .i64 (k : Int) ∧ w1 = wr) (fun j _ => n - (intOf j).toNat)
  case atStart => exact ⟨0, Nat.zero_le _, rfl, rfl⟩
  case round =>
    obtain ⟨k, hkn, rfl, rfl⟩ := hrel
    by_cases hlt : k < n
    · have hk : k < ss.length := by rw [HN.out]; exact hlt
      obtain ⟨ad, rfl, hcl, hsz⟩ := HS.out k hk
      obtain ⟨s, hs⟩ : ∃ s, ss[k]'hk = s := ⟨_, rfl⟩
      rw [hs] at hcl hsz
      have h4 : s.size ≤ 4032 := by rw [← hs]; exact HSZ.out k hk
      have e1 : decide ((s.size : Int) > 4032) = false := decide_eq_false (by omega)
      clear hs hk h4
      go_wp2_with fail
      go_roundw
      case rel => exact ⟨k + 1, by omega, by go_num, by trivial⟩
      case measure => simp [intOf]; omega
    · obtain rfl : k = n := by omega
      go_upto_region 9 with (fail)
      rw [← hwb]
      clear hwb z0 z1 z2 z3 c2
      by_cases hk0 : k = 0
      · have e2 : decide ((k : Int) > 0) = false := decide_eq_false (by omega)
        have e2n : decide (0 < k) = false := decide_eq_false (by omega)
        clear hk0
        go_upto_region 12 with (fail)
        exact sendTail HWK.out HN16.out HP.out HPK.out hN HN.out HS.out HFL.out HSB.out HROOM.out (by assumption) (by kernel_rfl) (by kernel_rfl)
      · have e2 : decide ((k : Int) > 0) = true := decide_eq_true (by omega)
        by_cases hh0 : hl' = 0
        · have e3 : decide ((hl' : Int) > 0) = false := decide_eq_false (by omega)
          have e3n : decide (0 < hl') = false := decide_eq_false (by omega)
          have hk1 : 0 < k := by omega
          clear hh0 hk0
          go_upto_region 12 with (fail)
          exact sendTail HWK.out HN16.out HP.out HPK.out hN HN.out HS.out HFL.out HSB.out HROOM.out (by assumption) (by kernel_rfl) (by kernel_rfl)
        · have hhp : 0 < p.held.length := by rw [HHL.out]; omega
          obtain ⟨a, ha⟩ : ∃ a, p.held[0]? = some a := ⟨_, List.getElem?_eq_getElem hhp⟩
          obtain ⟨hs0, hs1, h64⟩ := HH64.out a ha
          have hag : p.held[0] = a := (List.getElem?_eq_some_iff.1 ha).2
          obtain ⟨g, hDg, hce⟩ := OwnG.elem fit_rhd HROW.out hhp
          rw [hag] at hce
          have y0 : wb.cell? ⟨g, 0, none⟩ = _ := (by simpa using (hce.later HBB.out).cell (j := 0) rfl)
          have w3 : IntKind.i64.wrap (p.last + (k : Int) - a.seq) = p.last + (k : Int) - a.seq := by rw [IntKind.wrap_i64]; omega
          have e3 : decide ((hl' : Int) > 0) = true := decide_eq_true (by omega)
          have e4 : decide (p.last + (k : Int) - a.seq ≥ 64) = false := decide_eq_false (by omega)
          have h0h : 0 < hl' := by omega
          rw [hDg] at x3
          clear ha hag hce hDg hhp hs0 hs1
          go_upto_region 12 with (fail)
          exact sendTail HWK.out HN16.out HP.out HPK.out hN HN.out HS.out HFL.out HSB.out HROOM.out (by assumption) (by kernel_rfl) (by kernel_rfl)
theorem RSend_any (h : RAt B F w rb S) (hS : Sok N S) (hN : N ≤ 1000000000000) (hnr : NearS S) (hB : B ≤ w.heap.size) (x : Int) (SA : Option Addr) (ss : List ByteArray) (cap : Nat) (hs : Strs w SA ss) (hsb : ∀ ad, SA = some ad → ss ≠ [] → ad.block < B) (hl : ss.length ≤ 1000000) :
    Calls Try.prog 19 #[.pointer (some ⟨rb, 0, none⟩), .int .i64 x, .slice SA ss.length cap] w (SndEnds B rb F w (sendM S x ss)) := by
  by_cases hbad : other S x = false ∨ anyLong ss = true ∨ roomP (peerOf S x) ss.length = false
  · refine (RSend_bad h hS hN hnr x SA ss cap hs hl hbad).mono ?_
    rintro e w1 ⟨rfl, hb1⟩
    have e1 : (sendM S x ss).1 = [] ∧ (sendM S x ss).2.2 = S := by
      unfold sendM
      by_cases h1 : other S x = false
      · rw [if_pos h1]; exact ⟨rfl, rfl⟩
      · rw [if_neg h1]
        by_cases h2 : anyLong ss = true
        · rw [if_pos h2]; exact ⟨rfl, rfl⟩
        · rw [if_neg h2, if_pos ((hbad.resolve_left h1).resolve_left h2)]; exact ⟨rfl, rfl⟩
    refine ⟨none, 0, F, by rw [e1.1]; rfl, by rw [e1.1]; exact OwnG.nil _ _ _ _ _, ?_, fun k e => by cases e⟩
    rw [e1.2]
    exact RStep.same h hb1
  · have h1 : other S x = true := by
      cases e : other S x with
      | true => rfl
      | false => exact absurd (Or.inl e) hbad
    have h2 : anyLong ss = false := by
      cases e : anyLong ss with
      | false => rfl
      | true => exact absurd (Or.inr (Or.inl e)) hbad
    have h3 : roomP (peerOf S x) ss.length = true := by
      cases e : roomP (peerOf S x) ss.length with
      | true => rfl
      | false => exact absurd (Or.inr (Or.inr e)) hbad
    have h4 := RSend_good h hS hN hB x SA ss cap hs hsb hl h1 h2 h3
    have h5 : sendM S x ss = (dataL x S.epoch (peerOf S x).known (newHd (peerOf S x).last ss), 0, putP S x (holdP (peerOf S x) ss)) := by
      unfold sendM
      rw [if_neg (by rw [h1]; simp), if_neg (by rw [h2]; simp), if_neg (by rw [h3]; simp)]
    rw [h5]
    exact h4
end
end Go.Proofs.Ytjfejfhdohpfbaa.Ses
