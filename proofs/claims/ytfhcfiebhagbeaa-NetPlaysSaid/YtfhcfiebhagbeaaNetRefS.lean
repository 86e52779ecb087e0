/-
  Layer 11, the document's net: Send. Conditions: none.
-/
import Derived.Test.YtfhcfiebhagbeaaNetAp
import Derived.Test.YtfhcfiebhagbeaaNetRefC
namespace Go.Proofs.Ytfhcfiebhagbeaa.Net
set_option maxRecDepth 100000
open Go.RowKit Go.Deep Go.Proofs.Ytfhcfiebhagbeaa.Mem

/-- One packet is sent: the document's net behind it, and how many were lost. -/
def wholeR (R : Rf) (a b : Int) : Bool := betw R.nodes a b && !cutL R.cs a b
def sendR1 (R : Rf) (p : Pk) : Rf × Int := if wholeR R p.src p.dst && decide (R.fl.length < 256) then ({ R with fl := R.fl ++ [p] }, 0) else (R, 1)
def sendR : Rf → List Pk → Rf × Int
  | R, [] => (R, 0)
  | R, p :: l => ((sendR (sendR1 R p).1 l).1, (sendR1 R p).2 + (sendR (sendR1 R p).1 l).2)
theorem sendR_app (l : List Pk) (p : Pk) : ∀ R, sendR R (l ++ [p]) = ((sendR1 (sendR R l).1 p).1, (sendR R l).2 + (sendR1 (sendR R l).1 p).2) := by
  induction l with
  | nil => intro R; simp [sendR]
  | cons q l ih =>
    intro R
    rw [List.cons_append, sendR, ih, sendR]
    simp only [Int.add_assoc]
theorem sendR_lost (l : List Pk) : ∀ R, 0 ≤ (sendR R l).2 ∧ (sendR R l).2 ≤ l.length := by
  induction l with
  | nil => intro R; simp [sendR]
  | cons q l ih =>
    intro R
    have h := ih (sendR1 R q).1
    rw [sendR]
    have h1 : 0 ≤ (sendR1 R q).2 ∧ (sendR1 R q).2 ≤ 1 := by unfold sendR1; split <;> simp
    simp only [List.length_cons]
    omega
def netRS5_N (rb g off k ln cap : Nat) (q : Pk) : Nat → Value → World → Prop
  | 0, v, _ => v = .pointer (some ⟨rb, 0, none⟩)
  | 1, v, _ => v = .slice (some ⟨g, off, none⟩) ln cap
  | 2, v, _ => v = .int .i64 (k : Int)
  | 3, v, _ => v = .pointer (some ⟨g, off + k * 4, none⟩)
  | 4, v, _ => v = .pointer (some ⟨g, off + k * 4, none⟩)
  | 5, v, _ => v = .int .i64 q.src
  | 6, v, _ => v = .slice (some ⟨g, off, none⟩) ln cap
  | 7, v, _ => v = .int .i64 (k : Int)
  | 8, v, _ => v = .pointer (some ⟨g, off + k * 4, none⟩)
  | 9, v, _ => v = .pointer (some ⟨g, off + k * 4 + 1, none⟩)
  | 10, v, _ => v = .int .i64 q.dst
  | 11, v, _ => v = .bool false
  | 12, v, _ => v = .bool true
  | 13, v, _ => v = .bool true
  | 14, v, _ => v = undef
  | 15, v, _ => v = undef
  | 16, v, _ => v = undef
  | 17, v, _ => v = undef
  | 18, v, _ => v = undef
  | 19, v, _ => v = undef
  | 20, v, _ => v = undef
  | 21, v, _ => v = undef
  | 22, v, _ => v = undef
  | 23, v, _ => v = undef
  | 24, v, _ => v = undef
  | 25, v, _ => v = undef
  | 26, v, _ => v = .bool true
  | 27, v, _ => v = .bool true
  | 28, v, _ => v = undef
  | 29, v, _ => v = undef
  | 30, v, _ => v = undef
  | 31, v, _ => v = undef
  | 32, v, _ => v = undef
  | 33, v, _ => v = undef
  | 34, v, _ => v = .bool true
  | _, _, _ => True
theorem netRS5_N_later {rb g off k ln cap : Nat} {q : Pk} {j : Nat} {v : Value} {w w' : World} (_hb : Below w.heap.size w w') (h : netRS5_N rb g off k ln cap q j v w) : netRS5_N rb g off k ln cap q j v w' := by
  match j, h with
  | 0, h | 1, h | 2, h | 3, h | 4, h | 5, h | 6, h | 7, h | 8, h | 9, h | 10, h | 11, h | 12, h | 13, h | 14, h | 15, h | 16, h | 17, h | 18, h | 19, h | 20, h | 21, h | 22, h | 23, h | 24, h | 25, h | 26, h | 27, h | 28, h | 29, h | 30, h | 31, h | 32, h | 33, h | 34, h => exact h
  | _ + 35, _ => exact trivial
theorem netRS5_N_keep {rb g off k ln cap : Nat} {q : Pk} {j : Nat} {v : Value} {w w' : World}  (h : netRS5_N rb g off k ln cap q j v w) : netRS5_N rb g off k ln cap q j v w' := by
  match j, h with
  | 0, h | 1, h | 2, h | 3, h | 4, h | 5, h | 6, h | 7, h | 8, h | 9, h | 10, h | 11, h | 12, h | 13, h | 14, h | 15, h | 16, h | 17, h | 18, h | 19, h | 20, h | 21, h | 22, h | 23, h | 24, h | 25, h | 26, h | 27, h | 28, h | 29, h | 30, h | 31, h | 32, h | 33, h | 34, h => exact h
  | _ + 35, _ => exact trivial
def netRS5_C (rb g off k ln cap : Nat) (q : Pk) : Nat → Value → World → Prop
  | 0, v, _ => v = .pointer (some ⟨rb, 0, none⟩)
  | 1, v, _ => v = .slice (some ⟨g, off, none⟩) ln cap
  | 2, v, _ => v = .int .i64 (k : Int)
  | 3, v, _ => v = .pointer (some ⟨g, off + k * 4, none⟩)
  | 4, v, _ => v = .pointer (some ⟨g, off + k * 4, none⟩)
  | 5, v, _ => v = .int .i64 q.src
  | 6, v, _ => v = .slice (some ⟨g, off, none⟩) ln cap
  | 7, v, _ => v = .int .i64 (k : Int)
  | 8, v, _ => v = .pointer (some ⟨g, off + k * 4, none⟩)
  | 9, v, _ => v = .pointer (some ⟨g, off + k * 4 + 1, none⟩)
  | 10, v, _ => v = .int .i64 q.dst
  | 11, v, _ => v = .bool true
  | 12, v, _ => v = .bool false
  | 13, v, _ => v = .bool false
  | 14, v, _ => v = .pointer (some ⟨rb, 0, none⟩)
  | 15, v, _ => v = .slice (some ⟨g, off, none⟩) ln cap
  | 16, v, _ => v = .int .i64 (k : Int)
  | 17, v, _ => v = .pointer (some ⟨g, off + k * 4, none⟩)
  | 18, v, _ => v = .pointer (some ⟨g, off + k * 4, none⟩)
  | 19, v, _ => v = .int .i64 q.src
  | 20, v, _ => v = .slice (some ⟨g, off, none⟩) ln cap
  | 21, v, _ => v = .int .i64 (k : Int)
  | 22, v, _ => v = .pointer (some ⟨g, off + k * 4, none⟩)
  | 23, v, _ => v = .pointer (some ⟨g, off + k * 4 + 1, none⟩)
  | 24, v, _ => v = .int .i64 q.dst
  | 25, v, _ => v = .bool true
  | 26, v, _ => v = .bool true
  | 27, v, _ => v = .bool true
  | 28, v, _ => v = undef
  | 29, v, _ => v = undef
  | 30, v, _ => v = undef
  | 31, v, _ => v = undef
  | 32, v, _ => v = undef
  | 33, v, _ => v = undef
  | 34, v, _ => v = .bool true
  | _, _, _ => True
theorem netRS5_C_later {rb g off k ln cap : Nat} {q : Pk} {j : Nat} {v : Value} {w w' : World} (_hb : Below w.heap.size w w') (h : netRS5_C rb g off k ln cap q j v w) : netRS5_C rb g off k ln cap q j v w' := by
  match j, h with
  | 0, h | 1, h | 2, h | 3, h | 4, h | 5, h | 6, h | 7, h | 8, h | 9, h | 10, h | 11, h | 12, h | 13, h | 14, h | 15, h | 16, h | 17, h | 18, h | 19, h | 20, h | 21, h | 22, h | 23, h | 24, h | 25, h | 26, h | 27, h | 28, h | 29, h | 30, h | 31, h | 32, h | 33, h | 34, h => exact h
  | _ + 35, _ => exact trivial
theorem netRS5_C_keep {rb g off k ln cap : Nat} {q : Pk} {j : Nat} {v : Value} {w w' : World}  (h : netRS5_C rb g off k ln cap q j v w) : netRS5_C rb g off k ln cap q j v w' := by
  match j, h with
  | 0, h | 1, h | 2, h | 3, h | 4, h | 5, h | 6, h | 7, h | 8, h | 9, h | 10, h | 11, h | 12, h | 13, h | 14, h | 15, h | 16, h | 17, h | 18, h | 19, h | 20, h | 21, h | 22, h | 23, h | 24, h | 25, h | 26, h | 27, h | 28, h | 29, h | 30, h | 31, h | 32, h | 33, h | 34, h => exact h
  | _ + 35, _ => exact trivial
def netRS5_L (rb g off k ln cap n ac : Nat) (A : Option Addr) (q : Pk) (G : Bool) : Nat → Value → World → Prop
  | 0, v, _ => v = .pointer (some ⟨rb, 0, none⟩)
  | 1, v, _ => v = .slice (some ⟨g, off, none⟩) ln cap
  | 2, v, _ => v = .int .i64 (k : Int)
  | 3, v, _ => v = .pointer (some ⟨g, off + k * 4, none⟩)
  | 4, v, _ => v = .pointer (some ⟨g, off + k * 4, none⟩)
  | 5, v, _ => v = .int .i64 q.src
  | 6, v, _ => v = .slice (some ⟨g, off, none⟩) ln cap
  | 7, v, _ => v = .int .i64 (k : Int)
  | 8, v, _ => v = .pointer (some ⟨g, off + k * 4, none⟩)
  | 9, v, _ => v = .pointer (some ⟨g, off + k * 4 + 1, none⟩)
  | 10, v, _ => v = .int .i64 q.dst
  | 11, v, _ => v = .bool true
  | 12, v, _ => v = .bool false
  | 13, v, _ => v = .bool false
  | 14, v, _ => v = .pointer (some ⟨rb, 0, none⟩)
  | 15, v, _ => v = .slice (some ⟨g, off, none⟩) ln cap
  | 16, v, _ => v = .int .i64 (k : Int)
  | 17, v, _ => v = .pointer (some ⟨g, off + k * 4, none⟩)
  | 18, v, _ => v = .pointer (some ⟨g, off + k * 4, none⟩)
  | 19, v, _ => v = .int .i64 q.src
  | 20, v, _ => v = .slice (some ⟨g, off, none⟩) ln cap
  | 21, v, _ => v = .int .i64 (k : Int)
  | 22, v, _ => v = .pointer (some ⟨g, off + k * 4, none⟩)
  | 23, v, _ => v = .pointer (some ⟨g, off + k * 4 + 1, none⟩)
  | 24, v, _ => v = .int .i64 q.dst
  | 25, v, _ => v = .bool false
  | 26, v, _ => v = .bool false
  | 27, v, _ => v = .bool false
  | 28, v, _ => v = .pointer (some ⟨rb, 0, none⟩)
  | 29, v, _ => v = .pointer (some ⟨rb, 0, none⟩)
  | 30, v, _ => v = .pointer (some ⟨rb, 1, none⟩)
  | 31, v, _ => v = .slice A n ac
  | 32, v, _ => v = .int .i64 (n : Int)
  | 33, v, _ => v = .bool G
  | 34, v, _ => v = .bool G
  | _, _, _ => True
theorem netRS5_L_later {rb g off k ln cap n ac : Nat} {A : Option Addr} {q : Pk} {G : Bool} {j : Nat} {v : Value} {w w' : World} (_hb : Below w.heap.size w w') (h : netRS5_L rb g off k ln cap n ac A q G j v w) : netRS5_L rb g off k ln cap n ac A q G j v w' := by
  match j, h with
  | 0, h | 1, h | 2, h | 3, h | 4, h | 5, h | 6, h | 7, h | 8, h | 9, h | 10, h | 11, h | 12, h | 13, h | 14, h | 15, h | 16, h | 17, h | 18, h | 19, h | 20, h | 21, h | 22, h | 23, h | 24, h | 25, h | 26, h | 27, h | 28, h | 29, h | 30, h | 31, h | 32, h | 33, h | 34, h => exact h
  | _ + 35, _ => exact trivial
theorem netRS5_L_keep {rb g off k ln cap n ac : Nat} {A : Option Addr} {q : Pk} {G : Bool} {j : Nat} {v : Value} {w w' : World}  (h : netRS5_L rb g off k ln cap n ac A q G j v w) : netRS5_L rb g off k ln cap n ac A q G j v w' := by
  match j, h with
  | 0, h | 1, h | 2, h | 3, h | 4, h | 5, h | 6, h | 7, h | 8, h | 9, h | 10, h | 11, h | 12, h | 13, h | 14, h | 15, h | 16, h | 17, h | 18, h | 19, h | 20, h | 21, h | 22, h | 23, h | 24, h | 25, h | 26, h | 27, h | 28, h | 29, h | 30, h | 31, h | 32, h | 33, h | 34, h => exact h
  | _ + 35, _ => exact trivial
set_option maxHeartbeats 2000000 in
theorem RSend_any {B rb ac cc : Nat} {R : Rf} {A C : Option Addr} {w : World} (h : RefAt B w rb R A ac C cc) (L : Option Addr) (l : List Pk) (cap : Nat) (hlen : l.length ≤ 1000000) (hB : B ≤ w.heap.size) (hst : ∀ w', Only (fun k => k = rb) w w' → Pks w' L l) :
    Calls Try.prog 12 #[.pointer (some ⟨rb, 0, none⟩), .slice L l.length cap] w fun e w' => e = .returned (.int .i64 (sendR R l).2) ∧ RStep B rb A C w (sendR R l).1 w' := by
  obtain ⟨ln, hln⟩ : ∃ n, l.length = n := ⟨_, rfl⟩
  have HR0 := Lib.hid h
  have HL := Lib.hid hst
  have HB := Lib.hid hB
  have HLN := Lib.hid hln
  rw [hln] at hlen ⊢
  clear h hB hst hln
  go_enter Try.func12, Try.ntmps12
  go_wp2_with fail
  go_loopw [5, 6] (fun x i wr => ∃ k : Nat, k ≤ ln ∧ i = .int .i64 (k : Int) ∧ x = .int .i64 (sendR R (l.take k)).2 ∧ Hid (RStep B rb A C w (sendR R (l.take k)).1 wr)) (fun _ i _ => ln - (intOf i).toNat)
  case atStart => exact ⟨0, Nat.zero_le _, rfl, rfl, Lib.hid (by rw [List.take_zero]; exact RStep.same HR0.out (Below.refl _ _))⟩
  case round =>
    obtain ⟨k, hk, rfl, rfl, HST⟩ := hrel
    by_cases hkn : k < ln
    · obtain ⟨A1, ac1, C1, cc1, hR1, ho1, hg1⟩ := HST.out
      have hkl : k < l.length := by rw [HLN.out]; exact hkn
      obtain ⟨p, hp⟩ : ∃ p, l[k] = p := ⟨_, rfl⟩
      have hPK := fun w' (ho : Only (fun k => k = rb) w w') => (HL.out w' ho).at hkl
      obtain ⟨g, off, rfl, hjunk⟩ := hPK wr ho1
      clear hjunk
      have HPK0 : Hid (∀ wi, Below wr.heap.size wr wi → wi.rangeAt g (off + k * 4) p.vals) := Lib.hid (fun wi hb => by
        obtain ⟨b2, o2, e2, hr⟩ := HL.out wi (ho1.trans (S' := fun _ => False) (Only.of_below hb) fun _ _ e => e.elim) k (by rw [List.length_map]; exact hkl)
        simp only [Option.some.injEq, Addr.mk.injEq] at e2
        obtain ⟨rfl, rfl, _⟩ := e2
        rw [List.getElem_map, hp] at hr
        exact hr)
      have HTK : Hid (l.take (k + 1) = l.take k ++ [p]) := Lib.hid (by rw [List.take_succ_eq_append_getElem hkl, hp])
      obtain ⟨⟨R1, x⟩, hS⟩ : ∃ S, sendR R (l.take k) = S := ⟨_, rfl⟩
      have HS := Lib.hid hS
      have hx : x ≤ k ∧ 0 ≤ x := by
        have h1 := sendR_lost (l.take k) R
        rw [hS, List.length_take] at h1
        dsimp only at h1
        omega
      rw [hS] at hR1 ⊢
      dsimp only at hR1 ⊢
      obtain ⟨hx1, hx2⟩ := hx
      have HRQ := Lib.hid hR1
      have HO := Lib.hid (And.intro ho1 hg1)
      have HBR := Lib.hid (Nat.le_trans HB.out ho1.size)
      have HKN := Lib.hid hkn
      have HRT := Lib.hid (fun (wi : World) (hb : Below wr.heap.size wr wi) => right_any p.src p.dst R1.nodes rb wi ((HRQ.out.later hb).cel.cell (j := 0) rfl))
      have HCT := Lib.hid (fun (wi : World) (hb : Below wr.heap.size wr wi) => cut_any (HRQ.out.later hb) p.src p.dst)
      have HY0 : Hid (∀ wi, Below wr.heap.size wr wi → wi.cell? ⟨g, off + k * 4, none⟩ = some (.int .i64 p.src)) := Lib.hid (fun wi hb => (HPK0.out wi hb) 0 _ rfl)
      have HY1 : Hid (∀ wi, Below wr.heap.size wr wi → wi.cell? ⟨g, off + k * 4 + 1, none⟩ = some (.int .i64 p.dst)) := Lib.hid (fun wi hb => (HPK0.out wi hb) 1 _ rfl)
      obtain ⟨n, hn⟩ : ∃ n, R1.fl.length = n := ⟨_, rfl⟩
      have HN := Lib.hid hn
      have HF : Hid (∀ wf, RStep B rb A1 C1 wr (sendR1 R1 p).1 wf → RStep B rb A C w (sendR R (l.take (k + 1))).1 wf) := Lib.hid fun wf hf => by
        rw [HTK.out, sendR_app, HS.out]
        exact RStep.next HO.out.1 HO.out.2 hf
      have HX : Hid (x + (sendR1 R1 p).2 = (sendR R (l.take (k + 1))).2) := Lib.hid (by rw [HTK.out, sendR_app, HS.out])
      clear hPK hkl hp hR1 ho1 hg1 hS hn HST
      go_upto_region 5 with (fail)
      cases hbt : betw R1.nodes p.src p.dst with
      | false =>
        have HSD : Hid (sendR1 R1 p = (R1, 1)) := Lib.hid (by unfold sendR1 wholeR; rw [hbt]; rfl)
        rw [HSD.out] at HF HX
        rw [hbt] at HRT
        clear hbt
        obtain ⟨wq, hwq⟩ : ∃ wq, wq = wr := ⟨_, rfl⟩
        subst hwq
        refine Reg.region_heavy (by kernel_rfl) 34 [34] (netRS5_N rb g off k ln cap p) (fun a => Below wq.heap.size wq a) (fun a => Below wq.heap.size wq a) (fun V => [(some 13, V 0), (some 14, V 1), (some 15, V 2), (some 16, V 3), (some 17, V 4), (some 18, V 5), (some 19, V 6), (some 20, V 7), (some 21, V 8), (some 22, V 9), (some 23, V 10), (some 24, V 11), (some 25, V 12), (some 26, V 13), (some 27, V 14), (some 28, V 15), (some 29, V 16), (some 30, V 17), (some 31, V 18), (some 32, V 19), (some 33, V 20), (some 34, V 21), (some 35, V 22), (some 36, V 23), (some 37, V 24), (some 38, V 25), (some 39, V 26), (some 40, V 27), (some 41, V 28), (some 42, V 29), (some 43, V 30), (some 44, V 31), (some 45, V 32), (some 46, V 33), (some 47, V 34)]) (by kernel_rfl) (by kernel_rfl) (by kernel_rfl) (fun V => rfl) ?_ ?_ ?_
        · exact (Below.refl _ _).drew
        · intro i o ho
          have hi : i < 35 := (Array.getElem?_eq_some_iff.1 ho).1
          rcases i with _ | _ | _ | _ | _ | _ | _ | _ | _ | _ | _ | _ | _ | _ | _ | _ | _ | _ | _ | _ | _ | _ | _ | _ | _ | _ | _ | _ | _ | _ | _ | _ | _ | _ | _ | i
          rotate_right
          · omega
          all_goals obtain rfl := Option.some.inj ho
          all_goals intro ρ wi hE hI hs hd
          all_goals try dsimp only at hI
          · have e0 : ρ (.tmp 0) = .pointer (some ⟨rb, 0, none⟩) := hs 0; exact Reg.gw hI
          · have e1 : ρ (.tmp 1) = .slice (some ⟨g, off, none⟩) ln cap := hs 1; exact Reg.gw hI
          · have e6 : ρ (.tmp 6) = .int .i64 (k : Int) := hs 6; exact Reg.gw hI
          · obtain ⟨_, rfl, e14⟩ := hd 1 14; obtain ⟨_, rfl, e15⟩ := hd 2 15; have z1 : k < ln := HKN.out
            have z2 : (k : Int) < (ln : Int) := by omega
            exact Reg.gw hI
          · obtain ⟨_, rfl, e16⟩ := hd 3 16; exact Reg.gw hI
          · obtain ⟨_, rfl, e17⟩ := hd 4 17; have y0 := HY0.out wi hI; exact Reg.gw hI
          · have e1 : ρ (.tmp 1) = .slice (some ⟨g, off, none⟩) ln cap := hs 1; exact Reg.gw hI
          · have e6 : ρ (.tmp 6) = .int .i64 (k : Int) := hs 6; exact Reg.gw hI
          · obtain ⟨_, rfl, e19⟩ := hd 6 19; obtain ⟨_, rfl, e20⟩ := hd 7 20; have z1 : k < ln := HKN.out
            have z2 : (k : Int) < (ln : Int) := by omega
            exact Reg.gw hI
          · obtain ⟨_, rfl, e21⟩ := hd 8 21; exact Reg.gw hI
          · obtain ⟨_, rfl, e22⟩ := hd 9 22; have y1 := HY1.out wi hI; exact Reg.gw hI
          · obtain ⟨_, rfl, e13⟩ := hd 0 13; obtain ⟨_, rfl, e18⟩ := hd 5 18; obtain ⟨_, rfl, e23⟩ := hd 10 23; have hf := hE.func
            refine Reg.Gives.call (f := 29) (args := #[.pointer (some ⟨rb, 0, none⟩), .int .i64 p.src, .int .i64 p.dst]) (w' := wi) (by go_simp) ?_
            refine (HRT.out wi hI).mono ?_
            rintro e w'' ⟨rfl, rfl⟩
            exact ⟨_, rfl, Reg.OwedH.same hI rfl⟩
          · obtain ⟨_, rfl, e24⟩ := hd 11 24; exact Reg.gw hI
          · obtain ⟨_, rfl, e25⟩ := hd 12 25; exact Reg.gw hI
          · exact Reg.no hI
          · exact Reg.no hI
          · exact Reg.no hI
          · exact Reg.no hI
          · exact Reg.no hI
          · exact Reg.no hI
          · exact Reg.no hI
          · exact Reg.no hI
          · exact Reg.no hI
          · exact Reg.no hI
          · exact Reg.no hI
          · exact Reg.no hI
          · obtain ⟨_, rfl, e26⟩ := hd 13 26; obtain ⟨_, rfl, e38⟩ := hd 25 38; have hc := hE.const; exact Reg.gw hI
          · obtain ⟨_, rfl, e39⟩ := hd 26 39; exact Reg.gw hI
          · exact Reg.no hI
          · exact Reg.no hI
          · exact Reg.no hI
          · exact Reg.no hI
          · exact Reg.no hI
          · exact Reg.no hI
          · obtain ⟨_, rfl, e40⟩ := hd 27 40; obtain ⟨_, rfl, e46⟩ := hd 33 46; have hc := hE.const; exact Reg.gw hI
        · intro V we hV hI
          have hV34 : V 34 = .bool true := hV 34 (by decide) rfl
          simp only [Reg.putsO, List.foldl_cons, List.foldl_nil, Act.put, List.setIfInBounds_toArray, List.set_cons_succ, List.set_cons_zero, hV34]
          replace hI : (fun a => Below wq.heap.size wq a) we := hI
          clear hV hV34
          have HST2 := Lib.hid (HF.out we (RStep.same HRQ.out hI))
          clear hI HF
          go_wp2_with fail
          go_roundw
          case rel => exact ⟨k + 1, by omega, by go_num, by rw [← HX.out], HST2⟩
          case measure => simp [intOf]; omega
      | true =>
        rw [hbt] at HRT
        cases hct : cutL R1.cs p.src p.dst with
        | true =>
          have HSD : Hid (sendR1 R1 p = (R1, 1)) := Lib.hid (by unfold sendR1 wholeR; rw [hbt, hct]; rfl)
          rw [HSD.out] at HF HX
          rw [hct] at HCT
          clear hbt hct
          obtain ⟨wq, hwq⟩ : ∃ wq, wq = wr := ⟨_, rfl⟩
          subst hwq
          refine Reg.region_heavy (by kernel_rfl) 34 [34] (netRS5_C rb g off k ln cap p) (fun a => Below wq.heap.size wq a) (fun a => Below wq.heap.size wq a) (fun V => [(some 13, V 0), (some 14, V 1), (some 15, V 2), (some 16, V 3), (some 17, V 4), (some 18, V 5), (some 19, V 6), (some 20, V 7), (some 21, V 8), (some 22, V 9), (some 23, V 10), (some 24, V 11), (some 25, V 12), (some 26, V 13), (some 27, V 14), (some 28, V 15), (some 29, V 16), (some 30, V 17), (some 31, V 18), (some 32, V 19), (some 33, V 20), (some 34, V 21), (some 35, V 22), (some 36, V 23), (some 37, V 24), (some 38, V 25), (some 39, V 26), (some 40, V 27), (some 41, V 28), (some 42, V 29), (some 43, V 30), (some 44, V 31), (some 45, V 32), (some 46, V 33), (some 47, V 34)]) (by kernel_rfl) (by kernel_rfl) (by kernel_rfl) (fun V => rfl) ?_ ?_ ?_
          · exact (Below.refl _ _).drew
          · intro i o ho
            have hi : i < 35 := (Array.getElem?_eq_some_iff.1 ho).1
            rcases i with _ | _ | _ | _ | _ | _ | _ | _ | _ | _ | _ | _ | _ | _ | _ | _ | _ | _ | _ | _ | _ | _ | _ | _ | _ | _ | _ | _ | _ | _ | _ | _ | _ | _ | _ | i
            rotate_right
            · omega
            all_goals obtain rfl := Option.some.inj ho
            all_goals intro ρ wi hE hI hs hd
            all_goals try dsimp only at hI
            · have e0 : ρ (.tmp 0) = .pointer (some ⟨rb, 0, none⟩) := hs 0; exact Reg.gw hI
            · have e1 : ρ (.tmp 1) = .slice (some ⟨g, off, none⟩) ln cap := hs 1; exact Reg.gw hI
            · have e6 : ρ (.tmp 6) = .int .i64 (k : Int) := hs 6; exact Reg.gw hI
            · obtain ⟨_, rfl, e14⟩ := hd 1 14; obtain ⟨_, rfl, e15⟩ := hd 2 15; have z1 : k < ln := HKN.out
              have z2 : (k : Int) < (ln : Int) := by omega
              exact Reg.gw hI
            · obtain ⟨_, rfl, e16⟩ := hd 3 16; exact Reg.gw hI
            · obtain ⟨_, rfl, e17⟩ := hd 4 17; have y0 := HY0.out wi hI; exact Reg.gw hI
            · have e1 : ρ (.tmp 1) = .slice (some ⟨g, off, none⟩) ln cap := hs 1; exact Reg.gw hI
            · have e6 : ρ (.tmp 6) = .int .i64 (k : Int) := hs 6; exact Reg.gw hI
            · obtain ⟨_, rfl, e19⟩ := hd 6 19; obtain ⟨_, rfl, e20⟩ := hd 7 20; have z1 : k < ln := HKN.out
              have z2 : (k : Int) < (ln : Int) := by omega
              exact Reg.gw hI
            · obtain ⟨_, rfl, e21⟩ := hd 8 21; exact Reg.gw hI
            · obtain ⟨_, rfl, e22⟩ := hd 9 22; have y1 := HY1.out wi hI; exact Reg.gw hI
            · obtain ⟨_, rfl, e13⟩ := hd 0 13; obtain ⟨_, rfl, e18⟩ := hd 5 18; obtain ⟨_, rfl, e23⟩ := hd 10 23; have hf := hE.func
              refine Reg.Gives.call (f := 29) (args := #[.pointer (some ⟨rb, 0, none⟩), .int .i64 p.src, .int .i64 p.dst]) (w' := wi) (by go_simp) ?_
              refine (HRT.out wi hI).mono ?_
              rintro e w'' ⟨rfl, rfl⟩
              exact ⟨_, rfl, Reg.OwedH.same hI rfl⟩
            · obtain ⟨_, rfl, e24⟩ := hd 11 24; exact Reg.gw hI
            · obtain ⟨_, rfl, e25⟩ := hd 12 25; exact Reg.gw hI
            · have e0 : ρ (.tmp 0) = .pointer (some ⟨rb, 0, none⟩) := hs 0
              refine Reg.yes ?_
              exact Reg.gw hI
            · have e1 : ρ (.tmp 1) = .slice (some ⟨g, off, none⟩) ln cap := hs 1
              refine Reg.yes ?_
              exact Reg.gw hI
            · have e6 : ρ (.tmp 6) = .int .i64 (k : Int) := hs 6
              refine Reg.yes ?_
              exact Reg.gw hI
            · obtain ⟨_, rfl, e28⟩ := hd 15 28; obtain ⟨_, rfl, e29⟩ := hd 16 29
              refine Reg.yes ?_
              have z1 : k < ln := HKN.out
              have z2 : (k : Int) < (ln : Int) := by omega
              exact Reg.gw hI
            · obtain ⟨_, rfl, e30⟩ := hd 17 30
              refine Reg.yes ?_
              exact Reg.gw hI
            · obtain ⟨_, rfl, e31⟩ := hd 18 31
              refine Reg.yes ?_
              have y0 := HY0.out wi hI; exact Reg.gw hI
            · have e1 : ρ (.tmp 1) = .slice (some ⟨g, off, none⟩) ln cap := hs 1
              refine Reg.yes ?_
              exact Reg.gw hI
            · have e6 : ρ (.tmp 6) = .int .i64 (k : Int) := hs 6
              refine Reg.yes ?_
              exact Reg.gw hI
            · obtain ⟨_, rfl, e33⟩ := hd 20 33; obtain ⟨_, rfl, e34⟩ := hd 21 34
              refine Reg.yes ?_
              have z1 : k < ln := HKN.out
              have z2 : (k : Int) < (ln : Int) := by omega
              exact Reg.gw hI
            · obtain ⟨_, rfl, e35⟩ := hd 22 35
              refine Reg.yes ?_
              exact Reg.gw hI
            · obtain ⟨_, rfl, e36⟩ := hd 23 36
              refine Reg.yes ?_
              have y1 := HY1.out wi hI; exact Reg.gw hI
            · obtain ⟨_, rfl, e27⟩ := hd 14 27; obtain ⟨_, rfl, e32⟩ := hd 19 32; obtain ⟨_, rfl, e37⟩ := hd 24 37; have hf := hE.func
              refine Reg.yes ?_
              refine Reg.Gives.call (f := 30) (args := #[.pointer (some ⟨rb, 0, none⟩), .int .i64 p.src, .int .i64 p.dst]) (w' := wi) (by go_simp) ?_
              refine (HCT.out wi hI).mono ?_
              rintro e w'' ⟨rfl, hbb⟩
              exact ⟨_, rfl, ⟨rfl, hI.trans (hbb.mono hI.size), fun j u _ _ h => netRS5_C_later hbb h⟩⟩
            · obtain ⟨_, rfl, e26⟩ := hd 13 26; obtain ⟨_, rfl, e38⟩ := hd 25 38; have hc := hE.const; exact Reg.gw hI
            · obtain ⟨_, rfl, e39⟩ := hd 26 39; exact Reg.gw hI
            · exact Reg.no hI
            · exact Reg.no hI
            · exact Reg.no hI
            · exact Reg.no hI
            · exact Reg.no hI
            · exact Reg.no hI
            · obtain ⟨_, rfl, e40⟩ := hd 27 40; obtain ⟨_, rfl, e46⟩ := hd 33 46; have hc := hE.const; exact Reg.gw hI
          · intro V we hV hI
            have hV34 : V 34 = .bool true := hV 34 (by decide) rfl
            simp only [Reg.putsO, List.foldl_cons, List.foldl_nil, Act.put, List.setIfInBounds_toArray, List.set_cons_succ, List.set_cons_zero, hV34]
            replace hI : (fun a => Below wq.heap.size wq a) we := hI
            clear hV hV34
            have HST2 := Lib.hid (HF.out we (RStep.same HRQ.out hI))
            clear hI HF
            go_wp2_with fail
            go_roundw
            case rel => exact ⟨k + 1, by omega, by go_num, by rw [← HX.out], HST2⟩
            case measure => simp [intOf]; omega
        | false =>
          rw [hct] at HCT
          obtain ⟨wq, hwq⟩ : ∃ wq, wq = wr := ⟨_, rfl⟩
          subst hwq
          obtain ⟨G, hG⟩ : ∃ G, decide ((n : Int) ≥ 256) = G := ⟨_, rfl⟩
          have HGG := Lib.hid hG
          cases G with
          | true =>
            have HSD : Hid (sendR1 R1 p = (R1, 1)) := Lib.hid (by
              unfold sendR1 wholeR
              rw [hbt, hct, show decide (R1.fl.length < 256) = false by simp at hG; simp [HN.out]; omega]
              rfl)
            rw [HSD.out] at HF HX
            obtain ⟨G, hG2⟩ : ∃ G, true = G := ⟨_, rfl⟩
            rw [hG2] at HGG
            clear hbt hct hG
            refine Reg.region_heavy (by kernel_rfl) 34 [34] (netRS5_L rb g off k ln cap n ac1 A1 p G) (fun a => Below wq.heap.size wq a) (fun a => Below wq.heap.size wq a) (fun V => [(some 13, V 0), (some 14, V 1), (some 15, V 2), (some 16, V 3), (some 17, V 4), (some 18, V 5), (some 19, V 6), (some 20, V 7), (some 21, V 8), (some 22, V 9), (some 23, V 10), (some 24, V 11), (some 25, V 12), (some 26, V 13), (some 27, V 14), (some 28, V 15), (some 29, V 16), (some 30, V 17), (some 31, V 18), (some 32, V 19), (some 33, V 20), (some 34, V 21), (some 35, V 22), (some 36, V 23), (some 37, V 24), (some 38, V 25), (some 39, V 26), (some 40, V 27), (some 41, V 28), (some 42, V 29), (some 43, V 30), (some 44, V 31), (some 45, V 32), (some 46, V 33), (some 47, V 34)]) (by kernel_rfl) (by kernel_rfl) (by kernel_rfl) (fun V => rfl) ?_ ?_ ?_
            · exact (Below.refl _ _).drew
            · intro i o ho
              have hi : i < 35 := (Array.getElem?_eq_some_iff.1 ho).1
              rcases i with _ | _ | _ | _ | _ | _ | _ | _ | _ | _ | _ | _ | _ | _ | _ | _ | _ | _ | _ | _ | _ | _ | _ | _ | _ | _ | _ | _ | _ | _ | _ | _ | _ | _ | _ | i
              rotate_right
              · omega
              all_goals obtain rfl := Option.some.inj ho
              all_goals intro ρ wi hE hI hs hd
              all_goals try dsimp only at hI
              · have e0 : ρ (.tmp 0) = .pointer (some ⟨rb, 0, none⟩) := hs 0; exact Reg.gw hI
              · have e1 : ρ (.tmp 1) = .slice (some ⟨g, off, none⟩) ln cap := hs 1; exact Reg.gw hI
              · have e6 : ρ (.tmp 6) = .int .i64 (k : Int) := hs 6; exact Reg.gw hI
              · obtain ⟨_, rfl, e14⟩ := hd 1 14; obtain ⟨_, rfl, e15⟩ := hd 2 15; have z1 : k < ln := HKN.out
                have z2 : (k : Int) < (ln : Int) := by omega
                exact Reg.gw hI
              · obtain ⟨_, rfl, e16⟩ := hd 3 16; exact Reg.gw hI
              · obtain ⟨_, rfl, e17⟩ := hd 4 17; have y0 := HY0.out wi hI; exact Reg.gw hI
              · have e1 : ρ (.tmp 1) = .slice (some ⟨g, off, none⟩) ln cap := hs 1; exact Reg.gw hI
              · have e6 : ρ (.tmp 6) = .int .i64 (k : Int) := hs 6; exact Reg.gw hI
              · obtain ⟨_, rfl, e19⟩ := hd 6 19; obtain ⟨_, rfl, e20⟩ := hd 7 20; have z1 : k < ln := HKN.out
                have z2 : (k : Int) < (ln : Int) := by omega
                exact Reg.gw hI
              · obtain ⟨_, rfl, e21⟩ := hd 8 21; exact Reg.gw hI
              · obtain ⟨_, rfl, e22⟩ := hd 9 22; have y1 := HY1.out wi hI; exact Reg.gw hI
              · obtain ⟨_, rfl, e13⟩ := hd 0 13; obtain ⟨_, rfl, e18⟩ := hd 5 18; obtain ⟨_, rfl, e23⟩ := hd 10 23; have hf := hE.func
                refine Reg.Gives.call (f := 29) (args := #[.pointer (some ⟨rb, 0, none⟩), .int .i64 p.src, .int .i64 p.dst]) (w' := wi) (by go_simp) ?_
                refine (HRT.out wi hI).mono ?_
                rintro e w'' ⟨rfl, rfl⟩
                exact ⟨_, rfl, Reg.OwedH.same hI rfl⟩
              · obtain ⟨_, rfl, e24⟩ := hd 11 24; exact Reg.gw hI
              · obtain ⟨_, rfl, e25⟩ := hd 12 25; exact Reg.gw hI
              · have e0 : ρ (.tmp 0) = .pointer (some ⟨rb, 0, none⟩) := hs 0
                refine Reg.yes ?_
                exact Reg.gw hI
              · have e1 : ρ (.tmp 1) = .slice (some ⟨g, off, none⟩) ln cap := hs 1
                refine Reg.yes ?_
                exact Reg.gw hI
              · have e6 : ρ (.tmp 6) = .int .i64 (k : Int) := hs 6
                refine Reg.yes ?_
                exact Reg.gw hI
              · obtain ⟨_, rfl, e28⟩ := hd 15 28; obtain ⟨_, rfl, e29⟩ := hd 16 29
                refine Reg.yes ?_
                have z1 : k < ln := HKN.out
                have z2 : (k : Int) < (ln : Int) := by omega
                exact Reg.gw hI
              · obtain ⟨_, rfl, e30⟩ := hd 17 30
                refine Reg.yes ?_
                exact Reg.gw hI
              · obtain ⟨_, rfl, e31⟩ := hd 18 31
                refine Reg.yes ?_
                have y0 := HY0.out wi hI; exact Reg.gw hI
              · have e1 : ρ (.tmp 1) = .slice (some ⟨g, off, none⟩) ln cap := hs 1
                refine Reg.yes ?_
                exact Reg.gw hI
              · have e6 : ρ (.tmp 6) = .int .i64 (k : Int) := hs 6
                refine Reg.yes ?_
                exact Reg.gw hI
              · obtain ⟨_, rfl, e33⟩ := hd 20 33; obtain ⟨_, rfl, e34⟩ := hd 21 34
                refine Reg.yes ?_
                have z1 : k < ln := HKN.out
                have z2 : (k : Int) < (ln : Int) := by omega
                exact Reg.gw hI
              · obtain ⟨_, rfl, e35⟩ := hd 22 35
                refine Reg.yes ?_
                exact Reg.gw hI
              · obtain ⟨_, rfl, e36⟩ := hd 23 36
                refine Reg.yes ?_
                have y1 := HY1.out wi hI; exact Reg.gw hI
              · obtain ⟨_, rfl, e27⟩ := hd 14 27; obtain ⟨_, rfl, e32⟩ := hd 19 32; obtain ⟨_, rfl, e37⟩ := hd 24 37; have hf := hE.func
                refine Reg.yes ?_
                refine Reg.Gives.call (f := 30) (args := #[.pointer (some ⟨rb, 0, none⟩), .int .i64 p.src, .int .i64 p.dst]) (w' := wi) (by go_simp) ?_
                refine (HCT.out wi hI).mono ?_
                rintro e w'' ⟨rfl, hbb⟩
                exact ⟨_, rfl, ⟨rfl, hI.trans (hbb.mono hI.size), fun j u _ _ h => netRS5_L_later hbb h⟩⟩
              · obtain ⟨_, rfl, e26⟩ := hd 13 26; obtain ⟨_, rfl, e38⟩ := hd 25 38; have hc := hE.const; exact Reg.gw hI
              · obtain ⟨_, rfl, e39⟩ := hd 26 39; exact Reg.gw hI
              · have e0 : ρ (.tmp 0) = .pointer (some ⟨rb, 0, none⟩) := hs 0
                refine Reg.yes ?_
                exact Reg.gw hI
              · obtain ⟨_, rfl, e41⟩ := hd 28 41
                refine Reg.yes ?_
                exact Reg.gw hI
              · obtain ⟨_, rfl, e42⟩ := hd 29 42
                refine Reg.yes ?_
                exact Reg.gw hI
              · obtain ⟨_, rfl, e43⟩ := hd 30 43
                refine Reg.yes ?_
                have x0 := (HRQ.out.later hI).cel.cell (j := 1) rfl
                rw [HN.out] at x0
                exact Reg.gw hI
              · obtain ⟨_, rfl, e44⟩ := hd 31 44
                refine Reg.yes ?_
                exact Reg.gw hI
              · obtain ⟨_, rfl, e45⟩ := hd 32 45; have hc := hE.const
                refine Reg.yes ?_
                have x1 : decide ((n : Int) ≥ 256) = G := HGG.out; exact Reg.gw hI
              · obtain ⟨_, rfl, e40⟩ := hd 27 40; obtain ⟨_, rfl, e46⟩ := hd 33 46; have hc := hE.const; exact Reg.gw hI
            · intro V we hV hI
              have hV34 : V 34 = .bool G := hV 34 (by decide) rfl
              simp only [Reg.putsO, List.foldl_cons, List.foldl_nil, Act.put, List.setIfInBounds_toArray, List.set_cons_succ, List.set_cons_zero, hV34]
              replace hI : (fun a => Below wq.heap.size wq a) we := hI
              clear hV hV34
              subst hG2
              have HST2 := Lib.hid (HF.out we (RStep.same HRQ.out hI))
              clear hI HF
              go_wp2_with fail
              go_roundw
              case rel => exact ⟨k + 1, by omega, by go_num, by rw [← HX.out], HST2⟩
              case measure => simp [intOf]; omega
          | false =>
            have hn6 : n < 256 := by simp at hG; omega
            have HSD : Hid (sendR1 R1 p = ({ R1 with fl := R1.fl ++ [p] }, 0)) := Lib.hid (by
              unfold sendR1 wholeR
              rw [hbt, hct, show decide (R1.fl.length < 256) = true by simp [HN.out]; omega]
              rfl)
            rw [HSD.out] at HF HX
            have HFL : Hid ((R1.fl ++ [p]).length ≤ 256) := Lib.hid (by simp [HN.out]; omega)
            obtain ⟨G, hG2⟩ : ∃ G, false = G := ⟨_, rfl⟩
            rw [hG2] at HGG
            clear hbt hct hG
            refine Reg.region_heavy (by kernel_rfl) 34 [34] (netRS5_L rb g off k ln cap n ac1 A1 p G) (fun a => Below wq.heap.size wq a) (fun a => Below wq.heap.size wq a) (fun V => [(some 13, V 0), (some 14, V 1), (some 15, V 2), (some 16, V 3), (some 17, V 4), (some 18, V 5), (some 19, V 6), (some 20, V 7), (some 21, V 8), (some 22, V 9), (some 23, V 10), (some 24, V 11), (some 25, V 12), (some 26, V 13), (some 27, V 14), (some 28, V 15), (some 29, V 16), (some 30, V 17), (some 31, V 18), (some 32, V 19), (some 33, V 20), (some 34, V 21), (some 35, V 22), (some 36, V 23), (some 37, V 24), (some 38, V 25), (some 39, V 26), (some 40, V 27), (some 41, V 28), (some 42, V 29), (some 43, V 30), (some 44, V 31), (some 45, V 32), (some 46, V 33), (some 47, V 34)]) (by kernel_rfl) (by kernel_rfl) (by kernel_rfl) (fun V => rfl) ?_ ?_ ?_
            · exact (Below.refl _ _).drew
            · intro i o ho
              have hi : i < 35 := (Array.getElem?_eq_some_iff.1 ho).1
              rcases i with _ | _ | _ | _ | _ | _ | _ | _ | _ | _ | _ | _ | _ | _ | _ | _ | _ | _ | _ | _ | _ | _ | _ | _ | _ | _ | _ | _ | _ | _ | _ | _ | _ | _ | _ | i
              rotate_right
              · omega
              all_goals obtain rfl := Option.some.inj ho
              all_goals intro ρ wi hE hI hs hd
              all_goals try dsimp only at hI
              · have e0 : ρ (.tmp 0) = .pointer (some ⟨rb, 0, none⟩) := hs 0; exact Reg.gw hI
              · have e1 : ρ (.tmp 1) = .slice (some ⟨g, off, none⟩) ln cap := hs 1; exact Reg.gw hI
              · have e6 : ρ (.tmp 6) = .int .i64 (k : Int) := hs 6; exact Reg.gw hI
              · obtain ⟨_, rfl, e14⟩ := hd 1 14; obtain ⟨_, rfl, e15⟩ := hd 2 15; have z1 : k < ln := HKN.out
                have z2 : (k : Int) < (ln : Int) := by omega
                exact Reg.gw hI
              · obtain ⟨_, rfl, e16⟩ := hd 3 16; exact Reg.gw hI
              · obtain ⟨_, rfl, e17⟩ := hd 4 17; have y0 := HY0.out wi hI; exact Reg.gw hI
              · have e1 : ρ (.tmp 1) = .slice (some ⟨g, off, none⟩) ln cap := hs 1; exact Reg.gw hI
              · have e6 : ρ (.tmp 6) = .int .i64 (k : Int) := hs 6; exact Reg.gw hI
              · obtain ⟨_, rfl, e19⟩ := hd 6 19; obtain ⟨_, rfl, e20⟩ := hd 7 20; have z1 : k < ln := HKN.out
                have z2 : (k : Int) < (ln : Int) := by omega
                exact Reg.gw hI
              · obtain ⟨_, rfl, e21⟩ := hd 8 21; exact Reg.gw hI
              · obtain ⟨_, rfl, e22⟩ := hd 9 22; have y1 := HY1.out wi hI; exact Reg.gw hI
              · obtain ⟨_, rfl, e13⟩ := hd 0 13; obtain ⟨_, rfl, e18⟩ := hd 5 18; obtain ⟨_, rfl, e23⟩ := hd 10 23; have hf := hE.func
                refine Reg.Gives.call (f := 29) (args := #[.pointer (some ⟨rb, 0, none⟩), .int .i64 p.src, .int .i64 p.dst]) (w' := wi) (by go_simp) ?_
                refine (HRT.out wi hI).mono ?_
                rintro e w'' ⟨rfl, rfl⟩
                exact ⟨_, rfl, Reg.OwedH.same hI rfl⟩
              · obtain ⟨_, rfl, e24⟩ := hd 11 24; exact Reg.gw hI
              · obtain ⟨_, rfl, e25⟩ := hd 12 25; exact Reg.gw hI
              · have e0 : ρ (.tmp 0) = .pointer (some ⟨rb, 0, none⟩) := hs 0
                refine Reg.yes ?_
                exact Reg.gw hI
              · have e1 : ρ (.tmp 1) = .slice (some ⟨g, off, none⟩) ln cap := hs 1
                refine Reg.yes ?_
                exact Reg.gw hI
              · have e6 : ρ (.tmp 6) = .int .i64 (k : Int) := hs 6
                refine Reg.yes ?_
                exact Reg.gw hI
              · obtain ⟨_, rfl, e28⟩ := hd 15 28; obtain ⟨_, rfl, e29⟩ := hd 16 29
                refine Reg.yes ?_
                have z1 : k < ln := HKN.out
                have z2 : (k : Int) < (ln : Int) := by omega
                exact Reg.gw hI
              · obtain ⟨_, rfl, e30⟩ := hd 17 30
                refine Reg.yes ?_
                exact Reg.gw hI
              · obtain ⟨_, rfl, e31⟩ := hd 18 31
                refine Reg.yes ?_
                have y0 := HY0.out wi hI; exact Reg.gw hI
              · have e1 : ρ (.tmp 1) = .slice (some ⟨g, off, none⟩) ln cap := hs 1
                refine Reg.yes ?_
                exact Reg.gw hI
              · have e6 : ρ (.tmp 6) = .int .i64 (k : Int) := hs 6
                refine Reg.yes ?_
                exact Reg.gw hI
              · obtain ⟨_, rfl, e33⟩ := hd 20 33; obtain ⟨_, rfl, e34⟩ := hd 21 34
                refine Reg.yes ?_
                have z1 : k < ln := HKN.out
                have z2 : (k : Int) < (ln : Int) := by omega
                exact Reg.gw hI
              · obtain ⟨_, rfl, e35⟩ := hd 22 35
                refine Reg.yes ?_
                exact Reg.gw hI
              · obtain ⟨_, rfl, e36⟩ := hd 23 36
                refine Reg.yes ?_
                have y1 := HY1.out wi hI; exact Reg.gw hI
              · obtain ⟨_, rfl, e27⟩ := hd 14 27; obtain ⟨_, rfl, e32⟩ := hd 19 32; obtain ⟨_, rfl, e37⟩ := hd 24 37; have hf := hE.func
                refine Reg.yes ?_
                refine Reg.Gives.call (f := 30) (args := #[.pointer (some ⟨rb, 0, none⟩), .int .i64 p.src, .int .i64 p.dst]) (w' := wi) (by go_simp) ?_
                refine (HCT.out wi hI).mono ?_
                rintro e w'' ⟨rfl, hbb⟩
                exact ⟨_, rfl, ⟨rfl, hI.trans (hbb.mono hI.size), fun j u _ _ h => netRS5_L_later hbb h⟩⟩
              · obtain ⟨_, rfl, e26⟩ := hd 13 26; obtain ⟨_, rfl, e38⟩ := hd 25 38; have hc := hE.const; exact Reg.gw hI
              · obtain ⟨_, rfl, e39⟩ := hd 26 39; exact Reg.gw hI
              · have e0 : ρ (.tmp 0) = .pointer (some ⟨rb, 0, none⟩) := hs 0
                refine Reg.yes ?_
                exact Reg.gw hI
              · obtain ⟨_, rfl, e41⟩ := hd 28 41
                refine Reg.yes ?_
                exact Reg.gw hI
              · obtain ⟨_, rfl, e42⟩ := hd 29 42
                refine Reg.yes ?_
                exact Reg.gw hI
              · obtain ⟨_, rfl, e43⟩ := hd 30 43
                refine Reg.yes ?_
                have x0 := (HRQ.out.later hI).cel.cell (j := 1) rfl
                rw [HN.out] at x0
                exact Reg.gw hI
              · obtain ⟨_, rfl, e44⟩ := hd 31 44
                refine Reg.yes ?_
                exact Reg.gw hI
              · obtain ⟨_, rfl, e45⟩ := hd 32 45; have hc := hE.const
                refine Reg.yes ?_
                have x1 : decide ((n : Int) ≥ 256) = G := HGG.out; exact Reg.gw hI
              · obtain ⟨_, rfl, e40⟩ := hd 27 40; obtain ⟨_, rfl, e46⟩ := hd 33 46; have hc := hE.const; exact Reg.gw hI
            · intro V we hV hI
              have hV34 : V 34 = .bool G := hV 34 (by decide) rfl
              simp only [Reg.putsO, List.foldl_cons, List.foldl_nil, Act.put, List.setIfInBounds_toArray, List.set_cons_succ, List.set_cons_zero, hV34]
              replace hI : (fun a => Below wq.heap.size wq a) we := hI
              clear hV hV34
              subst hG2
              have HR := Lib.hid (HRQ.out.later hI)
              have HBW := Lib.hid (Nat.le_trans HBR.out hI.size)
              have HPK := Lib.hid (HPK0.out we hI)
              have HBE := Lib.hid hI
              clear hI HRT HCT HY0 HY1 HPK0 HRQ
              go_upto_region 7 with (fail)
              refine Reg.region_inv (by kernel_rfl) (fun i => ([some (.pointer (some ⟨rb, 0, none⟩)), none, some (.pointer (some ⟨rb, 0, none⟩)), some (.pointer (some ⟨rb, 0, none⟩)), some (.pointer (some ⟨rb, 1, none⟩)), some (.slice A1 n ac1), none, some (.slice (some ⟨g, off, none⟩) ln cap), some (.int .i64 (k : Int)), some (.pointer (some ⟨g, off + k * 4, none⟩)), some (.agg #[.int .i64 p.src, .int .i64 p.dst, .string p.bytes, .bool p.spoilt]), none, none, some (.pointer (some ⟨rb, 0, none⟩)), some (.pointer (some ⟨rb, 1, none⟩)), none] : List (Option Value)).getD i none) (fun D V W => (D 15 = false → Ap we (D 1) (cond (D 12) (V 12) (cond (D 6) (V 6) (V 1))) (cond (D 12) (R1.fl ++ [p]) (cond (D 6) (R1.fl) ([]))) (D 11) (V 11) p W) ∧ (D 15 = true → RStep B rb A1 C1 we { R1 with fl := R1.fl ++ [p] } W)) (fun V => [(some 50, V 0), (some 51, V 1), (some 52, V 2), (some 53, V 3), (some 54, V 4), (some 55, V 5), (some 56, V 6), (some 57, V 7), (some 58, V 8), (some 59, V 9), (some 60, V 10), (some 61, V 11), (some 62, V 12), (some 63, V 13), (some 64, V 14), (none, V 15)]) (by kernel_rfl) (by kernel_rfl) (fun V => rfl) ?_ ?_ ?_
              · intro V
                exact ⟨fun _ => Ap.start (Below.refl _ _).drew _ _ _ _, fun e => (by cases e)⟩
              · intro i o ho
                have hi : i < 16 := (Array.getElem?_eq_some_iff.1 ho).1
                rcases i with _ | _ | _ | _ | _ | _ | _ | _ | _ | _ | _ | _ | _ | _ | _ | _ | i
                rotate_right
                · omega
                all_goals obtain rfl := Option.some.inj ho
                all_goals intro D V ρ wi hE hI hDi hT hF hs hd hk
                · have e0 : ρ (.tmp 0) = .pointer (some ⟨rb, 0, none⟩) := hs 0; clear hT hF hk
                  exact Reg.Gives.value (v := .pointer (some ⟨rb, 0, none⟩)) (w' := wi) (by go_simp) ⟨fun x h => Option.some.inj h, hI⟩
                · have hD1 : D 1 = false := hDi; have hD6 : D 6 = false := hF 1 6; have hD12 : D 12 = false := hF 2 12; have hD15 : D 15 = false := hF 1 15; clear hT hF; have h1 := hI.1 hD15
                  rw [hD1] at h1
                  rw [hD6] at h1
                  rw [hD12] at h1
                  simp only [cond_false] at h1
                  exact Reg.Gives.value (v := .slice (some ⟨wi.heap.size, 0, none⟩) 0 0) (w' := wi.alloc (.cells #[] 42)) (by go_simp) ⟨fun x h => (by cases h), by show ((D 15) = false → Ap we true (cond (D 12) (V 12) (cond (D 6) (V 6) (.slice (some ⟨wi.heap.size, 0, none⟩) 0 0))) (cond (D 12) (R1.fl ++ [p]) (cond (D 6) (R1.fl) [])) (D 11) (V 11) p (wi.alloc (.cells #[] 42))) ∧ ((D 15) = true → RStep B rb A1 C1 we { R1 with fl := R1.fl ++ [p] } (wi.alloc (.cells #[] 42))); rw [hD6, hD12, hD15]; simp only [cond_false]; exact ⟨fun _ => h1.mkz, fun e => by cases e⟩⟩
                · have e0 : ρ (.tmp 0) = .pointer (some ⟨rb, 0, none⟩) := hs 0; clear hT hF hk
                  exact Reg.Gives.value (v := .pointer (some ⟨rb, 0, none⟩)) (w' := wi) (by go_simp) ⟨fun x h => Option.some.inj h, hI⟩
                · have e52 : ρ (.tmp 52) = .pointer (some ⟨rb, 0, none⟩) := (hd 2 52).trans (hk 2 _ rfl); clear hT hF hk
                  exact Reg.Gives.value (v := .pointer (some ⟨rb, 0, none⟩)) (w' := wi) (by go_simp) ⟨fun x h => Option.some.inj h, hI⟩
                · have e53 : ρ (.tmp 53) = .pointer (some ⟨rb, 0, none⟩) := (hd 3 53).trans (hk 3 _ rfl); clear hT hF hk
                  exact Reg.Gives.value (v := .pointer (some ⟨rb, 1, none⟩)) (w' := wi) (by go_simp) ⟨fun x h => Option.some.inj h, hI⟩
                · have e54 : ρ (.tmp 54) = .pointer (some ⟨rb, 1, none⟩) := (hd 4 54).trans (hk 4 _ rfl); have hD15 : D 15 = false := hF 1 15; clear hT hF; have hL : Below we.heap.size we wi := (hI.1 hD15).low; have x0 := (HR.out.later hL).cel.cell (j := 1) rfl
                  rw [HN.out] at x0
                  exact Reg.Gives.value (v := .slice A1 n ac1) (w' := wi) (by go_simp) ⟨fun x h => Option.some.inj h, hI⟩
                · have e51 : ρ (.tmp 51) = V 1 := hd 1 51; have e55 : ρ (.tmp 55) = .slice A1 n ac1 := (hd 5 55).trans (hk 5 _ rfl); have hD1 : D 1 = true := hT 1 1; have hD6 : D 6 = false := hDi; have hD12 : D 12 = false := hF 1 12; have hD15 : D 15 = false := hF 1 15; clear hT hF; have h1 := hI.1 hD15
                  rw [hD1] at h1
                  rw [hD6] at h1
                  rw [hD12] at h1
                  simp only [cond_false] at h1
                  have hL := h1.low
                  obtain ⟨A2, n2, c2, w2, hrun, hn⟩ := h1.app (m := R1.fl) ((HR.out.later hL).sl.1) (HR.out.sl.2) (by simp; have := HR.out.len; omega)
                  rw [HN.out] at hrun
                  exact Reg.Gives.value (v := .slice A2 n2 c2) (w' := w2) (Reg.exec_append rfl e51 e55 hrun) ⟨fun x h => (by cases h), by show ((D 15) = false → Ap we (D 1) (cond (D 12) (V 12) (cond true (.slice A2 n2 c2) (V 1))) (cond (D 12) (R1.fl ++ [p]) (cond true (R1.fl) [])) (D 11) (V 11) p w2) ∧ ((D 15) = true → RStep B rb A1 C1 we { R1 with fl := R1.fl ++ [p] } w2); rw [hD1, hD12, hD15]; simp only [cond_false, cond_true]; exact ⟨fun _ => hn, fun e => by cases e⟩⟩
                · have e1 : ρ (.tmp 1) = .slice (some ⟨g, off, none⟩) ln cap := hs 1; clear hT hF hk
                  exact Reg.Gives.value (v := .slice (some ⟨g, off, none⟩) ln cap) (w' := wi) (by go_simp) ⟨fun x h => Option.some.inj h, hI⟩
                · have e6 : ρ (.tmp 6) = .int .i64 (k : Int) := hs 6; clear hT hF hk
                  exact Reg.Gives.value (v := .int .i64 (k : Int)) (w' := wi) (by go_simp) ⟨fun x h => Option.some.inj h, hI⟩
                · have e57 : ρ (.tmp 57) = .slice (some ⟨g, off, none⟩) ln cap := (hd 7 57).trans (hk 7 _ rfl); have e58 : ρ (.tmp 58) = .int .i64 (k : Int) := (hd 8 58).trans (hk 8 _ rfl); have hD15 : D 15 = false := hF 1 15; clear hT hF; have hL : Below we.heap.size we wi := (hI.1 hD15).low; have z1 : k < ln := HKN.out
                  have z2 : (k : Int) < (ln : Int) := by omega
                  exact Reg.Gives.value (v := .pointer (some ⟨g, off + k * 4, none⟩)) (w' := wi) (by go_simp) ⟨fun x h => Option.some.inj h, hI⟩
                · have e59 : ρ (.tmp 59) = .pointer (some ⟨g, off + k * 4, none⟩) := (hd 9 59).trans (hk 9 _ rfl); have hD15 : D 15 = false := hF 1 15; clear hT hF; have hL : Below we.heap.size we wi := (hI.1 hD15).low; have y0 := (range_later HPK.out hL) 0 _ rfl
                  rw [Nat.add_zero] at y0
                  have y1 := (range_later HPK.out hL) 1 _ rfl; have y2 := (range_later HPK.out hL) 2 _ rfl; have y3 := (range_later HPK.out hL) 3 _ rfl
                  exact Reg.Gives.value (v := .agg #[.int .i64 p.src, .int .i64 p.dst, .string p.bytes, .bool p.spoilt]) (w' := wi) (by go_simp) ⟨fun x h => Option.some.inj h, hI⟩
                · have e60 : ρ (.tmp 60) = .agg #[.int .i64 p.src, .int .i64 p.dst, .string p.bytes, .bool p.spoilt] := (hd 10 60).trans (hk 10 _ rfl); have hD11 : D 11 = false := hDi; have hD15 : D 15 = false := hF 1 15; clear hT hF; have h1 := hI.1 hD15
                  rw [hD11] at h1
                  exact Reg.Gives.value (v := .slice (some ⟨wi.heap.size, 0, none⟩) 1 1) (w' := wi.alloc (.cells #[.int .i64 p.src, .int .i64 p.dst, .string p.bytes, .bool p.spoilt] 42)) (by go_simp) ⟨fun x h => (by cases h), by show ((D 15) = false → Ap we (D 1) (cond (D 12) (V 12) (cond (D 6) (V 6) (V 1))) (cond (D 12) (R1.fl ++ [p]) (cond (D 6) (R1.fl) [])) true (.slice (some ⟨wi.heap.size, 0, none⟩) 1 1) p (wi.alloc (.cells #[.int .i64 p.src, .int .i64 p.dst, .string p.bytes, .bool p.spoilt] 42))) ∧ ((D 15) = true → RStep B rb A1 C1 we { R1 with fl := R1.fl ++ [p] } (wi.alloc (.cells #[.int .i64 p.src, .int .i64 p.dst, .string p.bytes, .bool p.spoilt] 42))); rw [hD15]; exact ⟨fun _ => h1.mkx, fun e => by cases e⟩⟩
                · have e56 : ρ (.tmp 56) = V 6 := hd 6 56; have e61 : ρ (.tmp 61) = V 11 := hd 11 61; have hD1 : D 1 = true := hT 2 1; have hD6 : D 6 = true := hT 1 6; have hD11 : D 11 = true := hT 1 11; have hD12 : D 12 = false := hDi; have hD15 : D 15 = false := hF 1 15; clear hT hF; have h1 := hI.1 hD15
                  rw [hD1] at h1
                  rw [hD6] at h1
                  rw [hD12] at h1
                  simp only [cond_false, cond_true] at h1
                  rw [hD11] at h1
                  obtain ⟨g2, A2, n2, c2, w2, hx2, hrun, hn⟩ := h1.one (by have := HR.out.len; omega)
                  rw [hx2] at e61
                  exact Reg.Gives.value (v := .slice A2 n2 c2) (w' := w2) (Reg.exec_append rfl e56 e61 hrun) ⟨fun x h => (by cases h), by show ((D 15) = false → Ap we (D 1) (cond true (.slice A2 n2 c2) (cond (D 6) (V 6) (V 1))) (cond true (R1.fl ++ [p]) (cond (D 6) (R1.fl) [])) (D 11) (V 11) p w2) ∧ ((D 15) = true → RStep B rb A1 C1 we { R1 with fl := R1.fl ++ [p] } w2); rw [hD1, hD6, hD11, hD15]; simp only [cond_true]; exact ⟨fun _ => hn, fun e => by cases e⟩⟩
                · have e50 : ρ (.tmp 50) = .pointer (some ⟨rb, 0, none⟩) := (hd 0 50).trans (hk 0 _ rfl); clear hT hF hk
                  exact Reg.Gives.value (v := .pointer (some ⟨rb, 0, none⟩)) (w' := wi) (by go_simp) ⟨fun x h => Option.some.inj h, hI⟩
                · have e63 : ρ (.tmp 63) = .pointer (some ⟨rb, 0, none⟩) := (hd 13 63).trans (hk 13 _ rfl); clear hT hF hk
                  exact Reg.Gives.value (v := .pointer (some ⟨rb, 1, none⟩)) (w' := wi) (by go_simp) ⟨fun x h => Option.some.inj h, hI⟩
                · have e64 : ρ (.tmp 64) = .pointer (some ⟨rb, 1, none⟩) := (hd 14 64).trans (hk 14 _ rfl); have e62 : ρ (.tmp 62) = V 12 := hd 12 62; have hD1 : D 1 = true := hT 1 1; have hD6 : D 6 = true := hT 1 6; have hD12 : D 12 = true := hT 1 12; have hD15 : D 15 = false := hDi; clear hT hF; have h1 := hI.1 hD15
                  rw [hD1] at h1
                  rw [hD6] at h1
                  rw [hD12] at h1
                  simp only [cond_true] at h1
                  have hac := h1.acc rfl; have hrl := HR.out.later h1.low; have x0 := hrl.cel.cell (j := 1) rfl
                  have x1 := hrl.cel.frozen (j := 1) (by simp)
                  have hfin := HR.out.newL HBW.out h1.low hac (by exact HFL.out)
                  obtain ⟨A2, c2, hv2⟩ := row_slice hac; obtain ⟨n3, hn3⟩ : ∃ n3, List.length (R1.fl ++ [p]) = n3 := ⟨_, rfl⟩
                  rw [hn3] at hv2
                  rw [hv2] at hfin
                  have e9 := e62
                  rw [hv2] at e9
                  clear e62
                  exact Reg.Gives.skip (w' := wi.setCell ⟨rb, 1, none⟩ (.slice A2 n3 c2)) (by go_simp) ⟨fun x h => (by cases h), by show (true = false → Ap we (D 1) (cond (D 12) (V 12) (cond (D 6) (V 6) (V 1))) (cond (D 12) (R1.fl ++ [p]) (cond (D 6) (R1.fl) [])) (D 11) (V 11) p (wi.setCell ⟨rb, 1, none⟩ (.slice A2 n3 c2))) ∧ (true = true → RStep B rb A1 C1 we { R1 with fl := R1.fl ++ [p] } (wi.setCell ⟨rb, 1, none⟩ (.slice A2 n3 c2))); exact ⟨fun e => (by cases e), fun _ => hfin⟩⟩
              · intro V wf hk hI
                simp only [Reg.putsO, List.foldl_cons, List.foldl_nil, Act.put, List.setIfInBounds_toArray, List.set_cons_succ, List.set_cons_zero]
                replace hI : ((fun _ => true) 15 = false → Ap we true (cond true (V 12) (cond true (V 6) (V 1))) (cond true (R1.fl ++ [p]) (cond true (R1.fl) ([]))) true (V 11) p wf) ∧ ((fun _ => true) 15 = true → RStep B rb A1 C1 we { R1 with fl := R1.fl ++ [p] } wf) := hI
                clear hk
                have HST2 := Lib.hid (HF.out wf (RStep.before HBE.out (hI.2 rfl)))
                clear hI HF
                go_wp2_with fail
                go_roundw
                case rel => exact ⟨k + 1, by omega, by go_num, by rw [← HX.out]; simp, HST2⟩
                case measure => simp [intOf]; omega
    · obtain rfl : k = ln := by omega
      go_wp2_with fail
      go_returns
      have e : l.take k = l := by rw [← HLN.out]; exact List.take_length
      rw [e] at HST ⊢
      exact ⟨rfl, HST.out⟩
end Go.Proofs.Ytfhcfiebhagbeaa.Net
