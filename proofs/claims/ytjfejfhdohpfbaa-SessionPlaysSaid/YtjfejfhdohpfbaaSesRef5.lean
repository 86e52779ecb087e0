/-
  Layer 14, the document's session: what isn't sent. Conditions: none.
-/
import Derived.Test.YtjfejfhdohpfbaaSesRef4
import Derived.Test.YtjfejfhdohpfbaaSesNear
namespace Go.Proofs.Ytjfejfhdohpfbaa.Ses
set_option maxRecDepth 100000
open Go.RowKit Go.Deep Go.Proofs.Ytjfejfhdohpfbaa.Mem Go.Proofs.Ytjfejfhdohpfbaa.Win

theorem anyLong_take {ss : List ByteArray} (h : ∀ k (hk : k < ss.length), ss[k].size ≤ 4032) : anyLong ss = false := by
  unfold anyLong
  rw [List.any_eq_false]
  intro s hs
  obtain ⟨k, hk, rfl⟩ := List.getElem_of_mem hs
  have := h k hk
  simp
  omega
section
variable {B rb N : Nat} {F : Nat → Prop} {w : World} {S : Sm}
set_option maxHeartbeats 4000000 in
theorem RSend_bad (h : RAt B F w rb S) (hS : Sok N S) (hN : N ≤ 1000000000000) (hnr : NearS S) (x : Int) (SA : Option Addr) (ss : List ByteArray) (c : Nat) (hs : Strs w SA ss) (hl : ss.length ≤ 1000000)
    (hbad : other S x = false ∨ anyLong ss = true ∨ roomP (peerOf S x) ss.length = false) :
    Calls Try.prog 19 #[.pointer (some ⟨rb, 0, none⟩), .int .i64 x, .slice SA ss.length c] w fun e w' => e = .returned (.tuple #[.slice none 0 0, .int .i64 (sendM S x ss).2.1]) ∧ Below w.heap.size w w' := by
  obtain ⟨pb, pc, As, cs, Ds, ds, hx⟩ := h
  have HO := Lib.hid (ROther_any hx x)
  have HX := Lib.hid hx
  unfold sendM
  obtain ⟨n, hn⟩ : ∃ n, ss.length = n := ⟨_, rfl⟩
  by_cases ho : other S x = false
  · rw [if_pos ho]
    rw [ho] at HO
    rw [hn]
    clear hx hS hs hl hbad ho hn hnr hN
    go_enter Try.func19, Try.ntmps19
    go_wp2_with fail
    refine HO.out.mono ?_
    rintro e w1 ⟨rfl, rfl⟩
    go_wp2_with fail
    go_returns
    exact ⟨rfl, Below.refl _ _⟩
  · have ho2 : other S x = true := by simpa using ho
    rw [if_neg ho]
    rw [ho2] at HO
    obtain ⟨i, hi, rfl, hnode⟩ := other_at ho2
    rw [peerOf_at hi] at hbad ⊢
    obtain ⟨p, hp⟩ : ∃ p, S.peers[i]'hi = p := ⟨_, rfl⟩
    rw [hp] at hbad ⊢
    have hpk := hS.peers _ (List.getElem_mem hi)
    have hnp := hnr _ (List.getElem_mem hi)
    rw [hp] at hpk hnp
    have hn16 := hS.n2
    have HS := Lib.hid hs
    have HN := Lib.hid hn
    have HPK := Lib.hid hpk
    have HNP := Lib.hid hnp
    have HI := Lib.hid hi
    have HP : Hid (∀ hz : i < S.peers.length, S.peers[i]'hz = p) := Lib.hid fun _ => hp
    have hbad2 : anyLong ss = true ∨ anyLong ss = false ∧ roomP p ss.length = false := by
      rcases hbad with e | e | e
      · exact absurd e ho
      · exact Or.inl e
      · cases hq : anyLong ss with
        | true => exact Or.inl rfl
        | false => exact Or.inr ⟨rfl, e⟩
    obtain ⟨er, her⟩ : ∃ er : Int, (if anyLong ss = true then (([] : List Ot), (1 : Int), S) else if roomP p ss.length = false then ([], 6, S) else (dataL ((i : Int) + 1) S.epoch p.known (newHd p.last ss), 0, putP S ((i : Int) + 1) (holdP p ss))).2.1 = er := ⟨_, rfl⟩
    rw [her]
    have HER : Hid ((anyLong ss = true → er = 1) ∧ (anyLong ss = false → roomP p ss.length = false ∧ er = 6)) := Lib.hid ⟨fun e => by rw [← her, if_pos e], fun e => by
      rcases hbad2 with e2 | ⟨_, e2⟩
      · rw [e] at e2; cases e2
      · exact ⟨e2, by rw [← her, if_neg (by rw [e]; exact Bool.false_ne_true), if_pos e2]⟩⟩
    obtain ⟨m, hm⟩ : ∃ m, S.peers.length = m := ⟨_, rfl⟩
    have HM := Lib.hid hm
    have him : i < m := by rw [← hm]; exact hi
    have hm16 : m ≤ 16 := by rw [← hm]; exact hn16
    rw [hn] at hl ⊢
    clear hx hS hs hbad hbad2 ho ho2 hn hnr hpk hnp hp her hm hn16 hi hnode
    go_enter Try.func19, Try.ntmps19
    go_wp2_with fail
    refine HO.out.mono ?_
    rintro e w1 ⟨rfl, rfl⟩
    go_wp2_with fail
    go_loopw [8] (fun j wr => ∃ k : Nat, k ≤ n ∧ j = .int .i64 (k : Int) ∧ Hid (∀ q (hq : q < ss.length), q < k → ss[q].size ≤ 4032) ∧ wr = w1) (fun j _ => n - (intOf j).toNat)
    case atStart => exact ⟨0, Nat.zero_le _, rfl, Lib.hid (fun q hq e => absurd e (Nat.not_lt_zero _)), rfl⟩
    case round =>
      obtain ⟨k, hkn, rfl, HK, rfl⟩ := hrel
      by_cases hlt : k < n
      · have hk : k < ss.length := by rw [HN.out]; exact hlt
        obtain ⟨ad, rfl, hcl, hsz⟩ := HS.out k hk
        obtain ⟨s, hs⟩ : ∃ s, ss[k]'hk = s := ⟨_, rfl⟩
        rw [hs] at hcl hsz
        by_cases h4 : s.size ≤ 4032
        · have e1 : decide ((s.size : Int) > 4032) = false := decide_eq_false (by omega)
          have HK2 : Hid (∀ q (hq : q < ss.length), q < k + 1 → ss[q].size ≤ 4032) := Lib.hid fun q hq e => by
            by_cases e2 : q = k
            · subst e2
              rw [hs]
              exact h4
            · exact HK.out q hq (by omega)
          clear hs hk h4
          go_wp2_with fail
          go_roundw
          case rel => exact ⟨k + 1, by omega, by go_num, HK2, trivial⟩
          case measure => simp [intOf]; omega
        · have e1 : decide ((s.size : Int) > 4032) = true := decide_eq_true (by omega)
          have hr : er = 1 := HER.out.1 (by
            unfold anyLong
            rw [List.any_eq_true]
            exact ⟨s, by rw [← hs]; exact List.getElem_mem hk, by simp; omega⟩)
          subst hr
          clear hs hk h4
          go_wp2_with fail
          go_returns
          exact ⟨rfl, Below.refl _ _⟩
      · obtain rfl : k = n := by omega
        obtain ⟨hrm, rfl⟩ := HER.out.2 (anyLong_take fun q hq => HK.out q hq (by rw [← HN.out]; exact hq))
        rw [HN.out] at hrm
        have hnr2 := (no_room HNP.out k).1 hrm
        have hpi := (HX.out.peer i HI.out)
        rw [HP.out] at hpi
        have c2 := HX.out.cel.cell (j := 2) rfl
        rw [HM.out] at c2
        have z0 : wr.cell? ⟨pb, i * 4, none⟩ = _ := hpi.1.cell (j := 0) rfl
        have z1 := hpi.1.cell (j := 1) rfl
        have z2 := hpi.1.cell (j := 2) rfl
        have z3 := hpi.1.cell (j := 3) rfl
        have hiw : IntKind.i64.wrap ((i : Int) + 1 - 1) = (i : Int) := by rw [IntKind.wrap_i64]; omega
        obtain ⟨wb, hwb⟩ : ∃ W, W = wr.alloc (.cells #[.slice (As i) p.L.length (cs i), .int .i64 p.known, .int .i64 (p.last + 1), .slice (Ds i) p.held.length (ds i)] 66) := ⟨_, rfl⟩
        have hbb : Below wr.heap.size wr wb := by rw [hwb]; exact below_alloc _ _
        have hcb : Cells wb wr.heap.size 66 (rpv p (As i) (cs i) (Ds i) (ds i)) := by rw [hwb]; exact cells_new _ _ _ _ rfl
        have HBB := Lib.hid hbb
        have x2 := hcb.cell (j := 2) rfl
        have x3 := hcb.cell (j := 3) rfl
        have hl0 := HPK.out.l0
        have hl1 := HPK.out.l1
        have hl2 := HPK.out.len
        have w1a : IntKind.i64.wrap (p.last + 1 + (k : Int)) = p.last + 1 + (k : Int) := by rw [IntKind.wrap_i64]; omega
        have w1b : IntKind.i64.wrap (p.last + 1 + (k : Int) - 1) = p.last + (k : Int) := by rw [IntKind.wrap_i64]; omega
        obtain ⟨hl, hhl⟩ : ∃ m, p.held.length = m := ⟨_, rfl⟩
        have w2a : IntKind.i64.wrap ((hl : Int) + (k : Int)) = (hl : Int) + (k : Int) := by rw [IntKind.wrap_i64]; omega
        by_cases h32 : 32 < hl + k
        · have e1 : decide ((hl : Int) + (k : Int) > 32) = true := decide_eq_true (by omega)
          rw [hhl] at z3 x3 hwb
          clear hrm hnr2 hpi hbb hcb hhl hl0 hl1 hl2 h32
          go_upto_region 9 with (fail)
          rw [← hwb]
          clear hwb z0 z1 z2 z3 c2
          go_wp2_with fail
          go_returns
          exact ⟨rfl, HBB.out⟩
        · obtain ⟨hk0, a, ha, h64⟩ := hnr2.resolve_left (by rw [hhl]; exact h32)
          have hh0 : 0 < p.held.length := (List.getElem?_eq_some_iff.1 ha).1
          have hag : p.held[0] = a := (List.getElem?_eq_some_iff.1 ha).2
          obtain ⟨g, hDg, hce⟩ := OwnG.elem fit_rhd hpi.2.row hh0
          rw [hag] at hce
          have y0 : wb.cell? ⟨g, 0, none⟩ = _ := (by simpa using (hce.later hbb).cell (j := 0) rfl)
          have hak := HPK.out.held a (List.mem_of_getElem? ha)
          have hs0 := hak.s0
          have hs1 := hak.s1
          have w3 : IntKind.i64.wrap (p.last + (k : Int) - a.seq) = p.last + (k : Int) - a.seq := by rw [IntKind.wrap_i64]; omega
          have e1 : decide ((hl : Int) + (k : Int) > 32) = false := decide_eq_false (by omega)
          have e2 : decide ((k : Int) > 0) = true := decide_eq_true (by omega)
          have e3 : decide ((hl : Int) > 0) = true := decide_eq_true (by omega)
          have e4 : decide (p.last + (k : Int) - a.seq ≥ 64) = true := decide_eq_true (by omega)
          have h0h : 0 < hl := by omega
          rw [hhl] at z3 x3 hwb
          rw [hDg] at z3 x3 hwb
          clear hrm hnr2 hpi hbb hcb hhl hl0 hl1 hl2 h32 hak hs0 hs1 ha hag hce hDg hh0
          go_upto_region 9 with (fail)
          rw [← hwb]
          clear hwb z0 z1 z2 z3 c2
          go_wp2_with fail
          all_goals first | (exfalso; omega) | (go_returns; exact ⟨rfl, HBB.out⟩)
end
end Go.Proofs.Ytjfejfhdohpfbaa.Ses
