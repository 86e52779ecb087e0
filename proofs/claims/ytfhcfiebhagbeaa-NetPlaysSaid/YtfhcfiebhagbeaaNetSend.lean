/-
  Layer 11: Send. Conditions: none.
-/
import Derived.Test.YtfhcfiebhagbeaaNetPut
import Derived.Test.YtfhcfiebhagbeaaReg4
namespace Go.Proofs.Ytfhcfiebhagbeaa.Net
set_option maxRecDepth 100000
open Go.RowKit Go.Deep Go.Proofs.Ytfhcfiebhagbeaa.Mem

/-- The slice whose first cell is at A holds these packets. -/
def Pks (w : World) (A : Option Addr) (l : List Pk) : Prop := Sl w A 4 (l.map Pk.vals)
theorem Pks.later {w w' : World} {A : Option Addr} {l : List Pk} (h : Pks w A l) (hb : Below w.heap.size w w') : Pks w' A l := Sl.later h hb
theorem Pks.at {w : World} {A : Option Addr} {l : List Pk} (h : Pks w A l) {k : Nat} (hk : k < l.length) : ∃ g off, A = some ⟨g, off, none⟩ ∧ w.cell? ⟨g, off + k * 4, none⟩ = some (.int .i64 l[k].src) ∧ w.cell? ⟨g, off + k * 4 + 1, none⟩ = some (.int .i64 l[k].dst) ∧
    w.cell? ⟨g, off + k * 4 + 2, none⟩ = some (.string l[k].bytes) ∧ w.cell? ⟨g, off + k * 4 + 3, none⟩ = some (.bool l[k].spoilt) := by
  obtain ⟨g, off, e, hr⟩ := h k (by rw [List.length_map]; exact hk)
  rw [List.getElem_map] at hr
  exact ⟨g, off, e, hr 0 _ rfl, hr 1 _ rfl, hr 2 _ rfl, hr 3 _ rfl⟩
/-- One packet is sent: the net behind it, and how many were lost. -/
def send1 (N : Nt) (p : Pk) : Nt × Int := if wholeN N p.src p.dst && decide (N.fl.length < 256) then ({ N with fl := N.fl ++ [p] }, 0) else (N, 1)
def sendL : Nt → List Pk → Nt × Int
  | N, [] => (N, 0)
  | N, p :: l => ((sendL (send1 N p).1 l).1, (send1 N p).2 + (sendL (send1 N p).1 l).2)
theorem sendL_app (l : List Pk) (p : Pk) : ∀ N, sendL N (l ++ [p]) = ((send1 (sendL N l).1 p).1, (sendL N l).2 + (send1 (sendL N l).1 p).2) := by
  induction l with
  | nil => intro N; simp [sendL]
  | cons q l ih =>
    intro N
    rw [List.cons_append, sendL, ih, sendL]
    simp only [Int.add_assoc]
theorem sendL_lost (l : List Pk) : ∀ N, 0 ≤ (sendL N l).2 ∧ (sendL N l).2 ≤ l.length := by
  induction l with
  | nil => intro N; simp [sendL]
  | cons q l ih =>
    intro N
    have h := ih (send1 N q).1
    rw [sendL]
    have h1 : 0 ≤ (send1 N q).2 ∧ (send1 N q).2 ≤ 1 := by unfold send1; split <;> simp
    simp only [List.length_cons]
    omega
theorem Send_nil (A : Option Addr) (n c : Nat) (w : World) : Calls Try.prog 11 #[.pointer none, .slice A n c] w fun e w' => e = .returned (.int .i64 n) ∧ w' = w := by
  go_enter Try.func11, Try.ntmps11
  go_wp2_with fail
  go_returns
  exact ⟨rfl, rfl⟩
def netSend_T (b g : Nat) (q : Pk) (B : Bool) : Nat → Value → World → Prop
  | 0, v, _ => v = .pointer (some ⟨b, 0, none⟩)
  | 1, v, _ => v = .pointer (some ⟨b, 0, none⟩)
  | 2, v, _ => v = .pointer (some ⟨b, 0, none⟩)
  | 3, v, _ => v = .pointer (some ⟨g, 0, none⟩)
  | 4, v, _ => v = .int .i64 q.src
  | 5, v, _ => v = .pointer (some ⟨g, 1, none⟩)
  | 6, v, _ => v = .int .i64 q.dst
  | 7, v, _ => v = .bool true
  | 8, v, _ => v = .bool false
  | 9, v, _ => v = .bool false
  | 10, v, _ => v = .pointer (some ⟨b, 0, none⟩)
  | 11, v, _ => v = .agg #[.int .i64 q.src, .int .i64 q.dst, .string q.bytes, .bool q.spoilt]
  | 12, v, _ => v = .bool B
  | 13, v, _ => v = .bool (!B)
  | 14, v, _ => v = .bool (!B)
  | _, _, _ => True
theorem netSend_T_later {b g : Nat} {q : Pk} {B : Bool} {j : Nat} {v : Value} {w w' : World} (_hb : Below w.heap.size w w') (h : netSend_T b g q B j v w) : netSend_T b g q B j v w' := by
  match j, h with
  | 0, h | 1, h | 2, h | 3, h | 4, h | 5, h | 6, h | 7, h | 8, h | 9, h | 10, h | 11, h | 12, h | 13, h | 14, h => exact h
  | _ + 15, _ => exact trivial
theorem netSend_T_keep {b g : Nat} {q : Pk} {B : Bool} {j : Nat} {v : Value} {w w' : World}  (h : netSend_T b g q B j v w) : netSend_T b g q B j v w' := by
  match j, h with
  | 0, h | 1, h | 2, h | 3, h | 4, h | 5, h | 6, h | 7, h | 8, h | 9, h | 10, h | 11, h | 12, h | 13, h | 14, h => exact h
  | _ + 15, _ => exact trivial
def netSend_F (b g : Nat) (q : Pk) : Nat → Value → World → Prop
  | 0, v, _ => v = .pointer (some ⟨b, 0, none⟩)
  | 1, v, _ => v = .pointer (some ⟨b, 0, none⟩)
  | 2, v, _ => v = .pointer (some ⟨b, 0, none⟩)
  | 3, v, _ => v = .pointer (some ⟨g, 0, none⟩)
  | 4, v, _ => v = .int .i64 q.src
  | 5, v, _ => v = .pointer (some ⟨g, 1, none⟩)
  | 6, v, _ => v = .int .i64 q.dst
  | 7, v, _ => v = .bool false
  | 8, v, _ => v = .bool true
  | 9, v, _ => v = .bool true
  | 10, v, _ => v = undef
  | 11, v, _ => v = undef
  | 12, v, _ => v = undef
  | 13, v, _ => v = undef
  | 14, v, _ => v = .bool true
  | _, _, _ => True
theorem netSend_F_later {b g : Nat} {q : Pk} {j : Nat} {v : Value} {w w' : World} (_hb : Below w.heap.size w w') (h : netSend_F b g q j v w) : netSend_F b g q j v w' := by
  match j, h with
  | 0, h | 1, h | 2, h | 3, h | 4, h | 5, h | 6, h | 7, h | 8, h | 9, h | 10, h | 11, h | 12, h | 13, h | 14, h => exact h
  | _ + 15, _ => exact trivial
theorem netSend_F_keep {b g : Nat} {q : Pk} {j : Nat} {v : Value} {w w' : World}  (h : netSend_F b g q j v w) : netSend_F b g q j v w' := by
  match j, h with
  | 0, h | 1, h | 2, h | 3, h | 4, h | 5, h | 6, h | 7, h | 8, h | 9, h | 10, h | 11, h | 12, h | 13, h | 14, h => exact h
  | _ + 15, _ => exact trivial
set_option maxHeartbeats 2000000 in
theorem Send_any {base b m c : Nat} {w : World} {N : Nt} {A : Option Addr} (h : NetAt base w b m N A c) (L : Option Addr) (l : List Pk) (cap : Nat) (hlen : l.length ≤ 1000000) (hok : ∀ p ∈ l, p.ok) (hbase : base ≤ w.heap.size)
    (hst : ∀ w', Only (foot b m A) w w' → Pks w' L l) :
    Calls Try.prog 11 #[.pointer (some ⟨b, 0, none⟩), .slice L l.length cap] w fun e w' => e = .returned (.int .i64 (sendL N l).2) ∧ NStep base b m A w (sendL N l).1 w' := by
  obtain ⟨n, hn⟩ : ∃ n, l.length = n := ⟨_, rfl⟩
  have HN := Lib.hid h
  have HL := Lib.hid hst
  have HOK := Lib.hid hok
  have HB := Lib.hid hbase
  have HLEN := Lib.hid hn
  rw [hn] at hlen ⊢
  clear h hok hbase hst hn
  go_enter Try.func11, Try.ntmps11
  go_wp2_with fail
  go_loopw [5, 7, 14] (fun x _ i wr => ∃ k : Nat, k ≤ n ∧ i = .int .i64 (k : Int) ∧ x = .int .i64 (sendL N (l.take k)).2 ∧ Hid (NStep base b m A w (sendL N (l.take k)).1 wr)) (fun _ _ i _ => n - (intOf i).toNat)
  case atStart => exact ⟨0, Nat.zero_le _, rfl, rfl, Lib.hid (by rw [List.take_zero]; exact NStep.same HN.out (Below.refl _ _))⟩
  case round =>
    obtain ⟨k, hk, rfl, rfl, HST⟩ := hrel
    by_cases hkn : k < n
    · obtain ⟨A1, c1, hN1, ho1, hg1⟩ := HST.out
      have hkl : k < l.length := by rw [HLEN.out]; exact hkn
      obtain ⟨g, off, e0, x0, x1, x2, x3⟩ := (HL.out wr ho1).at hkl
      obtain ⟨p, hp⟩ : ∃ p, l[k] = p := ⟨_, rfl⟩
      rw [hp] at x0 x1 x2 x3
      have HTK : Hid (l.take (k + 1) = l.take k ++ [p]) := Lib.hid (by rw [List.take_succ_eq_append_getElem hkl, hp])
      have HPOK := Lib.hid (HOK.out p (by rw [← hp]; exact List.getElem_mem hkl))
      obtain ⟨⟨N1, x⟩, hS⟩ : ∃ S, sendL N (l.take k) = S := ⟨_, rfl⟩
      have HS := Lib.hid hS
      have hx : x ≤ k ∧ 0 ≤ x := by
        have h1 := sendL_lost (l.take k) N
        rw [hS, List.length_take] at h1
        dsimp only at h1
        omega
      rw [hS] at hN1 ⊢
      dsimp only at hN1 ⊢
      obtain ⟨hx1, hx2⟩ := hx
      subst e0
      obtain ⟨we, hwe⟩ : ∃ W, W = wr.alloc (.cells #[.int .i64 p.src, .int .i64 p.dst, .string p.bytes, .bool p.spoilt] 39) := ⟨_, rfl⟩
      have hbe : Below wr.heap.size wr we := by rw [hwe]; exact below_alloc _ _
      have HP : Hid (Cells we wr.heap.size 39 p.vals) := Lib.hid (by rw [hwe]; exact cells_new _ _ _ _ rfl)
      have HN1 := Lib.hid (hN1.later hbe)
      have HBE := Lib.hid hbe
      have HO := Lib.hid (And.intro ho1 hg1)
      have HW := Lib.hid (fun (w1 : World) (hb : Below we.heap.size we w1) => whole_any (HN1.out.later hb) p.src p.dst)
      have hbw : base ≤ we.heap.size := Nat.le_trans HB.out (Nat.le_trans ho1.size hbe.size)
      have HPUT := Lib.hid (fun (w1 : World) (hb : Below we.heap.size we w1) => put_any (HN1.out.later hb) p HPOK.out (Nat.le_trans hbw hb.size))
      clear hN1 hbe ho1 hg1 hp hkl hS hbw
      go_upto_region 7 with (fail)
      rw [← hwe]
      have HF : Hid (∀ wf, NStep base b m A1 we (send1 N1 p).1 wf → NStep base b m A w (sendL N (l.take (k + 1))).1 wf) := Lib.hid fun wf hf => by
        rw [HTK.out, sendL_app, HS.out]
        exact NStep.next HO.out.1 HO.out.2 (NStep.before HBE.out hf)
      have HX : Hid (x + (send1 N1 p).2 = (sendL N (l.take (k + 1))).2) := Lib.hid (by rw [HTK.out, sendL_app, HS.out])
      obtain ⟨C, hC⟩ : ∃ C, wholeN N1 p.src p.dst = C := ⟨_, rfl⟩
      rw [hC] at HW
      cases C
      · have HSD : Hid (send1 N1 p = (N1, 1)) := Lib.hid (by unfold send1; rw [hC]; rfl)
        rw [HSD.out] at HF HX
        clear hwe HPUT hC HSD HST
        refine Reg.region_heavy (by kernel_rfl) 14 [14] (netSend_F b wr.heap.size p) (fun a => Below we.heap.size we a) (fun a => Below we.heap.size we a) (fun V => [(some 18, V 0), (some 19, V 1), (some 20, V 2), (some 21, V 3), (some 22, V 4), (some 23, V 5), (some 24, V 6), (some 25, V 7), (some 26, V 8), (some 27, V 9), (some 28, V 10), (some 29, V 11), (some 30, V 12), (some 31, V 13), (some 32, V 14)]) (by kernel_rfl) (by kernel_rfl) (by kernel_rfl) (fun V => rfl) ?_ ?_ ?_
        · exact (Below.refl _ _).drew
        · intro i o ho
          have hi : i < 15 := (Array.getElem?_eq_some_iff.1 ho).1
          rcases i with _ | _ | _ | _ | _ | _ | _ | _ | _ | _ | _ | _ | _ | _ | _ | i
          rotate_right
          · omega
          all_goals obtain rfl := Option.some.inj ho
          all_goals intro ρ wi hE hI hs hd
          all_goals try dsimp only at hI
          · have e0 : ρ (.tmp 0) = .pointer (some ⟨b, 0, none⟩) := hs 0; exact Reg.gw hI
          · obtain ⟨_, rfl, e18⟩ := hd 0 18; exact Reg.gw hI
          · obtain ⟨_, rfl, e19⟩ := hd 1 19; exact Reg.gw hI
          · have e7 : ρ (.tmp 7) = .pointer (some ⟨wr.heap.size, 0, none⟩) := hs 7; exact Reg.gw hI
          · obtain ⟨_, rfl, e21⟩ := hd 3 21; have x0 := (HP.out.later hI).cell (j := 0) rfl; exact Reg.gw hI
          · have e7 : ρ (.tmp 7) = .pointer (some ⟨wr.heap.size, 0, none⟩) := hs 7; exact Reg.gw hI
          · obtain ⟨_, rfl, e23⟩ := hd 5 23; have x1 := (HP.out.later hI).cell (j := 1) rfl; exact Reg.gw hI
          · obtain ⟨_, rfl, e20⟩ := hd 2 20; obtain ⟨_, rfl, e22⟩ := hd 4 22; obtain ⟨_, rfl, e24⟩ := hd 6 24; have hf := hE.func
            refine Reg.Gives.call (f := 27) (args := #[.pointer (some ⟨b, 0, none⟩), .int .i64 p.src, .int .i64 p.dst]) (w' := wi) (by go_simp) ?_
            refine (HW.out wi hI).mono ?_
            rintro e w'' ⟨rfl, hbb⟩
            exact ⟨_, rfl, ⟨rfl, hI.trans (hbb.mono hI.size), fun j u _ _ h => netSend_F_later hbb h⟩⟩
          · obtain ⟨_, rfl, e25⟩ := hd 7 25; exact Reg.gw hI
          · obtain ⟨_, rfl, e26⟩ := hd 8 26; exact Reg.gw hI
          · exact Reg.no hI
          · exact Reg.no hI
          · exact Reg.no hI
          · exact Reg.no hI
          · obtain ⟨_, rfl, e27⟩ := hd 9 27; obtain ⟨_, rfl, e31⟩ := hd 13 31; have hc := hE.const; exact Reg.gw hI
        · intro V wf hV hI
          have hV14 : V 14 = .bool true := hV 14 (by decide) rfl
          simp only [Reg.putsO, List.foldl_cons, List.foldl_nil, Act.put, List.setIfInBounds_toArray, List.set_cons_succ, List.set_cons_zero, hV14]
          replace hI : (fun a => Below we.heap.size we a) wf := hI
          clear hV hV14
          have HST2 := Lib.hid (HF.out wf (NStep.same HN1.out hI))
          clear hI HF
          go_wp2_with fail
          go_roundw
          case rel => exact ⟨k + 1, by omega, by go_num, by rw [← HX.out], HST2⟩
          case measure => simp [intOf]; omega
      · obtain ⟨B, hB⟩ : ∃ B, decide (N1.fl.length < 256) = B := ⟨_, rfl⟩
        rw [hB] at HPUT
        have HSD : Hid (send1 N1 p = (if N1.fl.length < 256 then { N1 with fl := N1.fl ++ [p] } else N1, if B then 0 else 1)) := Lib.hid (by
          unfold send1
          rw [hC, ← hB]
          by_cases h : N1.fl.length < 256
          · simp [h]
          · simp [h])
        rw [HSD.out] at HF HX
        dsimp only at HF HX
        generalize (if N1.fl.length < 256 then { N1 with fl := N1.fl ++ [p] } else N1 : Nt) = N2 at HF HPUT
        clear hwe hC HSD HST hB
        refine Reg.region_heavy (by kernel_rfl) 12 [14] (netSend_T b wr.heap.size p B) (fun a => Below we.heap.size we a) (fun a => NStep base b m A1 we N2 a) (fun V => [(some 18, V 0), (some 19, V 1), (some 20, V 2), (some 21, V 3), (some 22, V 4), (some 23, V 5), (some 24, V 6), (some 25, V 7), (some 26, V 8), (some 27, V 9), (some 28, V 10), (some 29, V 11), (some 30, V 12), (some 31, V 13), (some 32, V 14)]) (by kernel_rfl) (by kernel_rfl) (by kernel_rfl) (fun V => rfl) ?_ ?_ ?_
        · exact (Below.refl _ _).drew
        · intro i o ho
          have hi : i < 15 := (Array.getElem?_eq_some_iff.1 ho).1
          rcases i with _ | _ | _ | _ | _ | _ | _ | _ | _ | _ | _ | _ | _ | _ | _ | i
          rotate_right
          · omega
          all_goals obtain rfl := Option.some.inj ho
          all_goals intro ρ wi hE hI hs hd
          all_goals try dsimp only at hI
          · have e0 : ρ (.tmp 0) = .pointer (some ⟨b, 0, none⟩) := hs 0; exact Reg.gw hI
          · obtain ⟨_, rfl, e18⟩ := hd 0 18; exact Reg.gw hI
          · obtain ⟨_, rfl, e19⟩ := hd 1 19; exact Reg.gw hI
          · have e7 : ρ (.tmp 7) = .pointer (some ⟨wr.heap.size, 0, none⟩) := hs 7; exact Reg.gw hI
          · obtain ⟨_, rfl, e21⟩ := hd 3 21; have x0 := (HP.out.later hI).cell (j := 0) rfl; exact Reg.gw hI
          · have e7 : ρ (.tmp 7) = .pointer (some ⟨wr.heap.size, 0, none⟩) := hs 7; exact Reg.gw hI
          · obtain ⟨_, rfl, e23⟩ := hd 5 23; have x1 := (HP.out.later hI).cell (j := 1) rfl; exact Reg.gw hI
          · obtain ⟨_, rfl, e20⟩ := hd 2 20; obtain ⟨_, rfl, e22⟩ := hd 4 22; obtain ⟨_, rfl, e24⟩ := hd 6 24; have hf := hE.func
            refine Reg.Gives.call (f := 27) (args := #[.pointer (some ⟨b, 0, none⟩), .int .i64 p.src, .int .i64 p.dst]) (w' := wi) (by go_simp) ?_
            refine (HW.out wi hI).mono ?_
            rintro e w'' ⟨rfl, hbb⟩
            exact ⟨_, rfl, ⟨rfl, hI.trans (hbb.mono hI.size), fun j u _ _ h => netSend_T_later hbb h⟩⟩
          · obtain ⟨_, rfl, e25⟩ := hd 7 25; exact Reg.gw hI
          · obtain ⟨_, rfl, e26⟩ := hd 8 26; exact Reg.gw hI
          · have e0 : ρ (.tmp 0) = .pointer (some ⟨b, 0, none⟩) := hs 0
            refine Reg.yes ?_
            exact Reg.gw hI
          · have e7 : ρ (.tmp 7) = .pointer (some ⟨wr.heap.size, 0, none⟩) := hs 7
            refine Reg.yes ?_
            have x0 := (HP.out.later hI).cell (j := 0) rfl; have x1 := (HP.out.later hI).cell (j := 1) rfl; have x2 := (HP.out.later hI).cell (j := 2) rfl; have x3 := (HP.out.later hI).cell (j := 3) rfl; exact Reg.gw hI
          · obtain ⟨_, rfl, e28⟩ := hd 10 28; obtain ⟨_, rfl, e29⟩ := hd 11 29; have hf := hE.func
            refine Reg.yes ?_
            refine Reg.Gives.call (f := 28) (args := #[.pointer (some ⟨b, 0, none⟩), .agg #[.int .i64 p.src, .int .i64 p.dst, .string p.bytes, .bool p.spoilt]]) (w' := wi) (by go_simp) ?_
            refine (HPUT.out wi hI).mono ?_
            rintro e w'' ⟨rfl, hst⟩
            exact ⟨_, rfl, ⟨rfl, NStep.before hI hst, fun j u _ _ h => netSend_T_keep h⟩⟩
          · obtain ⟨_, rfl, e30⟩ := hd 12 30
            refine Reg.yes ?_
            exact Reg.gw hI
          · obtain ⟨_, rfl, e27⟩ := hd 9 27; obtain ⟨_, rfl, e31⟩ := hd 13 31; have hc := hE.const; exact Reg.gw hI
        · intro V wf hV hI
          have hV14 : V 14 = .bool (!B) := hV 14 (by decide) rfl
          simp only [Reg.putsO, List.foldl_cons, List.foldl_nil, Act.put, List.setIfInBounds_toArray, List.set_cons_succ, List.set_cons_zero, hV14]
          replace hI : (fun a => NStep base b m A1 we N2 a) wf := hI
          clear hV hV14
          have HST2 := Lib.hid (HF.out wf hI)
          clear hI HF
          cases B
          · go_wp2_with fail
            go_roundw
            case rel => exact ⟨k + 1, by omega, by go_num, by rw [← HX.out]; simp, HST2⟩
            case measure => simp [intOf]; omega
          · go_wp2_with fail
            go_roundw
            case rel => exact ⟨k + 1, by omega, by go_num, by rw [← HX.out]; simp, HST2⟩
            case measure => simp [intOf]; omega
    · obtain rfl : k = n := by omega
      go_wp2_with fail
      go_returns
      have e : l.take k = l := by rw [← HLEN.out]; exact List.take_length
      rw [e] at HST ⊢
      exact ⟨rfl, HST.out⟩
end Go.Proofs.Ytfhcfiebhagbeaa.Net
