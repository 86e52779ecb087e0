/-
  Layer 14, SessionPlays: is the script too great? Conditions: none.
-/
import Derived.Test.YtjfejfhdohpfbaaSesOps
namespace Go.Proofs.Ytjfejfhdohpfbaa.Ses
set_option maxRecDepth 100000
open Go.RowKit Go.Deep Go.Proofs.Ytjfejfhdohpfbaa.Mem Go.Proofs.Ytjfejfhdohpfbaa.Win

theorem greatO_bad {os : List Opk} {o : Opk} (h : o ∈ os) (hf : fitO o = false) : greatO os = true := by
  unfold greatO
  rw [Bool.or_eq_true, Bool.not_eq_true', List.all_eq_false]
  exact Or.inr ⟨o, h, by rw [hf]; exact Bool.false_ne_true⟩
set_option maxHeartbeats 2000000 in
theorem great_any (A : Option Addr) (os : List Opk) (cap : Nat) (w : World) (h : Opks w A os) (hl : os.length ≤ 140737488351232) :
    Calls Try.prog 15 #[.slice A os.length cap] w fun e w' => e = .returned (.bool (greatO os)) ∧ Below w.heap.size w w' := by
  obtain ⟨n, hn⟩ : ∃ n, os.length = n := ⟨_, rfl⟩
  have HH := Lib.hid h
  have HN := Lib.hid hn
  rw [hn] at hl ⊢
  by_cases h1 : 120 < n
  · have e1 : decide ((n : Int) > 120) = true := decide_eq_true (by omega)
    have HG : Hid (greatO os = true) := Lib.hid (by unfold greatO; rw [hn]; simp [h1])
    clear h hn h1
    go_enter Try.func15, Try.ntmps15
    go_wp2_with fail
    go_returns
    exact ⟨by rw [HG.out]; rfl, Below.refl _ _⟩
  · have e1 : decide ((n : Int) > 120) = false := decide_eq_false (by omega)
    have h120 : n ≤ 120 := by omega
    clear h hn h1
    go_enter Try.func15, Try.ntmps15
    go_wp2_with fail
    clear e1
    go_loopw [4, 6, 12] (fun _ _ j wr => ∃ k : Nat, k ≤ n ∧ j = .int .i64 (k : Int) ∧ Hid ((os.take k).all fitO = true) ∧ Hid (Below w.heap.size w wr)) (fun _ _ j _ => n - (intOf j).toNat)
    case atStart => exact ⟨0, Nat.zero_le _, rfl, Lib.hid rfl, Lib.hid (Below.refl _ _)⟩
    case round =>
      obtain ⟨k, hkn, rfl, HA, HB⟩ := hrel
      by_cases hlt : k < n
      · have hkl : k < os.length := by rw [HN.out]; exact hlt
        obtain ⟨g, off, rfl, hr, hok⟩ := (HH.out.later HB.out).at hkl
        obtain ⟨o, ho⟩ : ∃ o, os[k]'hkl = o := ⟨_, rfl⟩
        rw [ho] at hr hok
        have hmem : o ∈ os := by rw [← ho]; exact List.getElem_mem hkl
        have htk : os.take (k + 1) = os.take k ++ [o] := by rw [List.take_succ_eq_append_getElem hkl, ho]
        have z0 := hr 0 _ rfl
        rw [Nat.add_zero] at z0
        have z1 := hr 1 _ rfl
        have z2 := hr 2 _ rfl
        have z3 := hr 3 _ rfl
        have z4 := hr 4 _ rfl
        have z5 := hr 5 _ rfl
        have z6 := hr 6 _ rfl
        have z7 := hr 7 _ rfl
        obtain ⟨wb, hwb⟩ : ∃ W, W = wr.alloc (.cells #[.int .i64 o.k, .int .i64 o.n, .slice o.A o.ss.length o.c, .int .i64 o.e.kind, .int .i64 o.e.epoch, .int .i64 o.e.peer, .int .i64 o.e.seq, .string o.e.pay] 46) := ⟨_, rfl⟩
        have hbb : Below wr.heap.size wr wb := by rw [hwb]; exact below_alloc _ _
        have hcb : Cells wb wr.heap.size 46 o.vals := by rw [hwb]; exact cells_new _ _ _ _ rfl
        have x2 := hcb.cell (j := 2) rfl
        have x7 := hcb.cell (j := 7) rfl
        have HBB : Hid (Below w.heap.size w wb) := Lib.hid (HB.out.trans (hbb.mono HB.out.size))
        have HST := Lib.hid (hok.texts.later hbb)
        have HBAD : Hid (fitO o = false → greatO os = true) := Lib.hid (greatO_bad hmem)
        have HTK := Lib.hid htk
        obtain ⟨m, hm⟩ : ∃ m, o.ss.length = m := ⟨_, rfl⟩
        have HM := Lib.hid hm
        obtain ⟨ps, hps⟩ : ∃ m, o.e.pay.size = m := ⟨_, rfl⟩
        have HPS := Lib.hid hps
        have hml : m ≤ 9223372036854775807 := by rw [← hm]; exact hok.len
        have hpl : ps ≤ 140737488355328 := by rw [← hps]; exact hok.pay
        obtain ⟨oA, hoA⟩ : ∃ m, o.A = m := ⟨_, rfl⟩
        rw [hm] at z2 x2 hwb
        rw [hoA] at z2 x2 hwb HST
        clear hoA hr hok ho hmem htk hbb hcb hkl hm
        go_upto_region 6 with (fail)
        rw [← hwb]
        clear hwb z0 z1 z2 z3 z4 z5 z6 z7
        by_cases h80 : m ≤ 80
        · have e1 : decide ((m : Int) > 80) = false := decide_eq_false (by omega)
          by_cases h50 : o.e.pay.size ≤ 5000
          · have e2 : decide ((o.e.pay.size : Int) > 5000) = false := decide_eq_false (by omega)
            go_upto_region 9 with (fail)
            clear e1 e2 x7
            go_loopw [6, 30] (fun _ j wq => ∃ i : Nat, i ≤ m ∧ j = .int .i64 (i : Int) ∧ Hid ((o.ss.take i).all (fun s => decide (s.size ≤ 5000)) = true) ∧ wq = wb) (fun _ j _ => m - (intOf j).toNat)
            case atStart => exact ⟨0, Nat.zero_le _, rfl, Lib.hid rfl, rfl⟩
            case round =>
              obtain ⟨i, him, rfl, HI, rfl⟩ := hrel
              by_cases hil : i < m
              · have hi : i < o.ss.length := by rw [HM.out]; exact hil
                obtain ⟨ad, rfl, hcl, hsz⟩ := HST.out i hi
                obtain ⟨s, hs⟩ : ∃ s, o.ss[i]'hi = s := ⟨_, rfl⟩
                rw [hs] at hcl hsz
                have hmm : s ∈ o.ss := by rw [← hs]; exact List.getElem_mem hi
                have hti : o.ss.take (i + 1) = o.ss.take i ++ [s] := by rw [List.take_succ_eq_append_getElem hi, hs]
                by_cases hs5 : s.size ≤ 5000
                · have HI2 : Hid ((o.ss.take (i + 1)).all (fun s => decide (s.size ≤ 5000)) = true) := Lib.hid (by rw [hti, List.all_append, HI.out]; simp [hs5])
                  have e3 : decide ((s.size : Int) > 5000) = false := decide_eq_false (by omega)
                  clear hs hmm hti hi hs5
                  go_wp2_with fail
                  go_roundw
                  case rel => exact ⟨i + 1, by omega, by go_num, HI2, trivial⟩
                  case measure => simp [intOf]; omega
                · have e3 : decide ((s.size : Int) > 5000) = true := decide_eq_true (by omega)
                  have HF : Hid (greatO os = true) := Lib.hid (HBAD.out (by
                    unfold fitO
                    rw [Bool.and_eq_false_iff]
                    exact Or.inr (List.all_eq_false.2 ⟨s, hmm, by simp [hs5]⟩)))
                  clear hs hmm hti hi hs5
                  go_wp2_with fail
                  go_returns
                  exact ⟨by rw [HF.out]; rfl, HBB.out⟩
              · obtain rfl : i = m := by omega
                have HF : Hid (((os.take (k + 1)).all fitO) = true) := Lib.hid (by
                  have h1 := HI.out
                  rw [List.take_of_length_le (by rw [HM.out]; exact Nat.le_refl _)] at h1
                  rw [HTK.out, List.all_append, HA.out]
                  simp only [List.all_cons, List.all_nil, Bool.and_true, Bool.true_and]
                  unfold fitO
                  rw [h1, HM.out, decide_eq_true h80, decide_eq_true h50]
                  rfl)
                go_wp2_with fail
                go_roundw
                case rel => exact ⟨k + 1, by omega, by go_num, HF, HBB⟩
                case measure => simp [intOf]; omega
          · have e2 : decide ((o.e.pay.size : Int) > 5000) = true := decide_eq_true (by omega)
            have HF : Hid (greatO os = true) := Lib.hid (HBAD.out (by unfold fitO; rw [decide_eq_false h50]; simp))
            go_wp2_with fail
            go_returns
            exact ⟨by rw [HF.out]; rfl, HBB.out⟩
        · have e1 : decide ((m : Int) > 80) = true := decide_eq_true (by omega)
          have HF : Hid (greatO os = true) := Lib.hid (HBAD.out (by unfold fitO; rw [HM.out, decide_eq_false h80]; simp))
          go_wp2_with fail
          go_returns
          exact ⟨by rw [HF.out]; rfl, HBB.out⟩
      · obtain rfl : k = n := by omega
        have HG : Hid (greatO os = false) := Lib.hid (by
          unfold greatO
          have h1 := HA.out
          rw [List.take_of_length_le (by rw [HN.out]; exact Nat.le_refl _)] at h1
          rw [h1, HN.out]
          simp
          omega)
        go_wp2_with fail
        go_returns
        exact ⟨by rw [HG.out]; rfl, HB.out⟩
end Go.Proofs.Ytjfejfhdohpfbaa.Ses
