/-
  Layer 6: whether nodes are right, by the document's own answer.
  Conditions: none.
-/
import Derived.Test.YtjeogeablbkhgaaP12
namespace Go.Proofs.Ytjeogeablbkhgaa.Item
open Go.RowKit Go.Proofs.Ytjeogeablbkhgaa.Mem
theorem lastN_at (l : List Int) (k : Nat) (h : k - 1 < l.length) (h0 : 0 < k) : lastN l k = l[k - 1] := by
 unfold lastN
 rw [if_neg (by omega), List.getElem?_eq_getElem h]
 rfl
def refNodes_a (b off c m k : Nat) (n : Int) : Nat → Value → World → Prop
 | 0, v, _ => v = .slice (some ⟨b, off, none⟩) m c
 | 1, v, _ => v = .int .i64 (k : Int)
 | 2, v, _ => v = .pointer (some ⟨b, off + k, none⟩)
 | 3, v, _ => v = .int .i64 n
 | 4, v, _ => v = .bool true
 | 5, v, _ => v = .bool true
 | 6, v, _ => v = undef
 | 7, v, _ => v = undef
 | 8, v, _ => v = undef
 | 9, v, _ => v = undef
 | 10, v, _ => v = undef
 | 11, v, _ => v = .bool true
 | 12, v, _ => v = .bool true
 | 13, v, _ => v = undef
 | 14, v, _ => v = undef
 | 15, v, _ => v = undef
 | 16, v, _ => v = undef
 | 17, v, _ => v = undef
 | 18, v, _ => v = undef
 | 19, v, _ => v = undef
 | 20, v, _ => v = undef
 | 21, v, _ => v = undef
 | 22, v, _ => v = undef
 | 23, v, _ => v = undef
 | 24, v, _ => v = undef
 | 25, v, _ => v = undef
 | 26, v, _ => v = undef
 | 27, v, _ => v = .bool true
 | _, _, _ => True
def refNodes_b (b off c m k : Nat) (n : Int) : Nat → Value → World → Prop
 | 0, v, _ => v = .slice (some ⟨b, off, none⟩) m c
 | 1, v, _ => v = .int .i64 (k : Int)
 | 2, v, _ => v = .pointer (some ⟨b, off + k, none⟩)
 | 3, v, _ => v = .int .i64 n
 | 4, v, _ => v = .bool false
 | 5, v, _ => v = .bool false
 | 6, v, _ => v = .slice (some ⟨b, off, none⟩) m c
 | 7, v, _ => v = .int .i64 (k : Int)
 | 8, v, _ => v = .pointer (some ⟨b, off + k, none⟩)
 | 9, v, _ => v = .int .i64 n
 | 10, v, _ => v = .bool true
 | 11, v, _ => v = .bool true
 | 12, v, _ => v = .bool true
 | 13, v, _ => v = undef
 | 14, v, _ => v = undef
 | 15, v, _ => v = undef
 | 16, v, _ => v = undef
 | 17, v, _ => v = undef
 | 18, v, _ => v = undef
 | 19, v, _ => v = undef
 | 20, v, _ => v = undef
 | 21, v, _ => v = undef
 | 22, v, _ => v = undef
 | 23, v, _ => v = undef
 | 24, v, _ => v = undef
 | 25, v, _ => v = undef
 | 26, v, _ => v = undef
 | 27, v, _ => v = .bool true
 | _, _, _ => True
def refNodes_c (b off c m k : Nat) (n : Int) : Nat → Value → World → Prop
 | 0, v, _ => v = .slice (some ⟨b, off, none⟩) m c
 | 1, v, _ => v = .int .i64 (k : Int)
 | 2, v, _ => v = .pointer (some ⟨b, off + k, none⟩)
 | 3, v, _ => v = .int .i64 n
 | 4, v, _ => v = .bool false
 | 5, v, _ => v = .bool false
 | 6, v, _ => v = .slice (some ⟨b, off, none⟩) m c
 | 7, v, _ => v = .int .i64 (k : Int)
 | 8, v, _ => v = .pointer (some ⟨b, off + k, none⟩)
 | 9, v, _ => v = .int .i64 n
 | 10, v, _ => v = .bool false
 | 11, v, _ => v = .bool false
 | 12, v, _ => v = .bool false
 | 13, v, _ => v = .int .i64 (k : Int)
 | 14, v, _ => v = .bool false
 | 15, v, _ => v = .bool false
 | 16, v, _ => v = undef
 | 17, v, _ => v = undef
 | 18, v, _ => v = undef
 | 19, v, _ => v = undef
 | 20, v, _ => v = undef
 | 21, v, _ => v = undef
 | 22, v, _ => v = undef
 | 23, v, _ => v = undef
 | 24, v, _ => v = undef
 | 25, v, _ => v = undef
 | 26, v, _ => v = .bool false
 | 27, v, _ => v = .bool false
 | _, _, _ => True
def refNodes_d (b off c m k : Nat) (n p : Int) : Nat → Value → World → Prop
 | 0, v, _ => v = .slice (some ⟨b, off, none⟩) m c
 | 1, v, _ => v = .int .i64 (k : Int)
 | 2, v, _ => v = .pointer (some ⟨b, off + k, none⟩)
 | 3, v, _ => v = .int .i64 n
 | 4, v, _ => v = .bool false
 | 5, v, _ => v = .bool false
 | 6, v, _ => v = .slice (some ⟨b, off, none⟩) m c
 | 7, v, _ => v = .int .i64 (k : Int)
 | 8, v, _ => v = .pointer (some ⟨b, off + k, none⟩)
 | 9, v, _ => v = .int .i64 n
 | 10, v, _ => v = .bool false
 | 11, v, _ => v = .bool false
 | 12, v, _ => v = .bool false
 | 13, v, _ => v = .int .i64 (k : Int)
 | 14, v, _ => v = .bool true
 | 15, v, _ => v = .bool true
 | 16, v, _ => v = .slice (some ⟨b, off, none⟩) m c
 | 17, v, _ => v = .int .i64 (k : Int)
 | 18, v, _ => v = .int .i64 ((k : Int) - 1)
 | 19, v, _ => v = .pointer (some ⟨b, off + (k - 1), none⟩)
 | 20, v, _ => v = .int .i64 p
 | 21, v, _ => v = .slice (some ⟨b, off, none⟩) m c
 | 22, v, _ => v = .int .i64 (k : Int)
 | 23, v, _ => v = .pointer (some ⟨b, off + k, none⟩)
 | 24, v, _ => v = .int .i64 n
 | 25, v, _ => v = .bool (decide (n ≤ p))
 | 26, v, _ => v = .bool (decide (n ≤ p))
 | 27, v, _ => v = .bool (decide (n ≤ p))
 | _, _, _ => True
set_option maxHeartbeats 400000 in
theorem refRightNodes_any (A : Option Addr) (l : List Int) (cap : Nat) (w : World) (hs : Nums w A l) (hm : l.length ≤ 1000000) :
  Calls Try.prog 33 #[.slice A l.length cap] w fun e w' => e = .returned (.bool (rightNodes l)) ∧ Below w.heap.size w w' := by
 have HS := Lib.hid hs
 clear hs
 go_enter Try.func33, Try.ntmps33
 go_wp2_with fail
 go_loopw [3] (fun i wr => ∃ k : Nat, k ≤ l.length ∧ i = .int .i64 (k : Int) ∧ Hid ((k = 0 ∨ 1 ≤ lastN l k) ∧ rightNodes l = nodesFrom (lastN l k) (l.drop k)) ∧ Below w.heap.size w wr) (fun i _ => l.length - (intOf i).toNat)
 case atStart => exact ⟨0, Nat.zero_le _, rfl, Lib.hid ⟨Or.inl rfl, rfl⟩, Below.refl _ _⟩
 case round =>
  obtain ⟨k, hk, rfl, hz, hbr⟩ := hrel
  by_cases hlt : k < l.length
  ·obtain ⟨b, off, rfl, c0⟩ := HS.out k hlt
   have d0 := (hbr.cell (block_of_cell c0)).trans c0
   have HST := Lib.hid (nodesFrom_step l k hlt)
   have HLS := Lib.hid (lastN_succ l k hlt)
   have HBR := Lib.hid hbr
   have HPR : Hid (0 < k → ∃ p : Int, lastN l k = p ∧ wr.cell? ⟨b, off + (k - 1), none⟩ = some (.int .i64 p)) := Lib.hid fun h0 => by
    obtain ⟨b', off', he, hp⟩ := HS.out (k - 1) (by omega)
    obtain ⟨rfl, rfl⟩ : b' = b ∧ off' = off := by simpa [eq_comm] using he
    exact ⟨_, lastN_at l k (by omega) h0, (hbr.cell (block_of_cell hp)).trans hp⟩
   have D0 : Hid (∀ wi, Below wr.heap.size wr wi → wi.cell? ⟨b, off + k, none⟩ = some (.int .i64 l[k])) := Lib.hid fun wi hb => (hb.cell (block_of_cell d0)).trans d0
   clear c0 d0 hbr
   generalize l[k] = n at *
   by_cases h1 : 1 ≤ n
   ·by_cases h2 : n ≤ 16
    ·by_cases h0 : 0 < k
     ·obtain ⟨p, hp, cp⟩ := HPR.out h0
      have hw1 := Lib.hid (show IntKind.i64.wrap ((k : Int) - 1) = (k : Int) - 1 from IntWalk.i64_in _ (by omega))
      have hn1 : 0 ≤ (k : Int) - 1 := by omega
      have hn2 : (k : Int) - 1 < (l.length : Int) := by omega
      have hn3 := Lib.hid (show ((k : Int) - 1).toNat = k - 1 by omega)
      have hn4 : 0 < (k : Int) := by omega
      have DP : Hid (∀ wi, Below wr.heap.size wr wi → wi.cell? ⟨b, off + (k - 1), none⟩ = some (.int .i64 p)) := Lib.hid fun wi hb => (hb.cell (block_of_cell cp)).trans cp
      clear cp
      by_cases hpn : p < n
      ·have hpf := decide_eq_false (show ¬ n ≤ p by omega)
       have HZ : Hid ((k + 1 = 0 ∨ 1 ≤ lastN l (k + 1)) ∧ rightNodes l = nodesFrom (lastN l (k + 1)) (l.drop (k + 1))) := Lib.hid ⟨Or.inr (by rw [HLS.out]; exact h1), by rw [hz.out.2, HST.out, hp, decide_eq_true (by omega)]; rfl⟩
       clear hp
       go_wp2_with fail
       refine Reg.region_heavy (by kernel_rfl) 27 [27] (refNodes_d b off cap l.length k n p) (fun a => Below wr.heap.size wr a) (fun a => Below wr.heap.size wr a) (fun V => [(some 10, V 0), (some 11, V 1), (some 12, V 2), (some 13, V 3), (some 14, V 4), (some 15, V 5), (some 16, V 6), (some 17, V 7), (some 18, V 8), (some 19, V 9), (some 20, V 10), (some 21, V 11), (some 22, V 12), (some 23, V 13), (some 24, V 14), (some 25, V 15), (some 26, V 16), (some 27, V 17), (some 28, V 18), (some 29, V 19), (some 30, V 20), (some 31, V 21), (some 32, V 22), (some 33, V 23), (some 34, V 24), (some 35, V 25), (some 36, V 26), (some 37, V 27)]) (by kernel_rfl) (by kernel_rfl) (by kernel_rfl) (fun V => rfl) ?_ ?_ ?_
       ·exact (Below.refl _ _).drew
       ·intro i o ho
        have hi : i < 28 := (Array.getElem?_eq_some_iff.1 ho).1
        rcases i with _ | _ | _ | _ | _ | _ | _ | _ | _ | _ | _ | _ | _ | _ | _ | _ | _ | _ | _ | _ | _ | _ | _ | _ | _ | _ | _ | _ | i
        rotate_right
        ·omega
        all_goals obtain rfl := Option.some.inj ho
        all_goals intro ρ wi hE hI hs hd
        all_goals try dsimp only at hI
        ·have e0 : ρ (.tmp 0) = .slice (some ⟨b, off, none⟩) l.length cap := hs 0; exact Reg.gw hI
        ·have e3 : ρ (.tmp 3) = .int .i64 (k : Int) := hs 3; exact Reg.gw hI
        ·obtain ⟨_, rfl, e10⟩ := hd 0 10; obtain ⟨_, rfl, e11⟩ := hd 1 11; exact Reg.gw hI
        ·obtain ⟨_, rfl, e12⟩ := hd 2 12; have hx := D0.out wi hI; exact Reg.gw hI
        ·obtain ⟨_, rfl, e13⟩ := hd 3 13; have hc := hE.const; exact Reg.gw hI
        ·obtain ⟨_, rfl, e14⟩ := hd 4 14; exact Reg.gw hI
        ·have e0 : ρ (.tmp 0) = .slice (some ⟨b, off, none⟩) l.length cap := hs 0
         refine Reg.yes ?_
         exact Reg.gw hI
        ·have e3 : ρ (.tmp 3) = .int .i64 (k : Int) := hs 3
         refine Reg.yes ?_
         exact Reg.gw hI
        ·obtain ⟨_, rfl, e16⟩ := hd 6 16; obtain ⟨_, rfl, e17⟩ := hd 7 17
         refine Reg.yes ?_
         exact Reg.gw hI
        ·obtain ⟨_, rfl, e18⟩ := hd 8 18
         refine Reg.yes ?_
         have hx := D0.out wi hI; exact Reg.gw hI
        ·obtain ⟨_, rfl, e19⟩ := hd 9 19; have hc := hE.const
         refine Reg.yes ?_
         exact Reg.gw hI
        ·obtain ⟨_, rfl, e15⟩ := hd 5 15; obtain ⟨_, rfl, e20⟩ := hd 10 20; have hc := hE.const; exact Reg.gw hI
        ·obtain ⟨_, rfl, e21⟩ := hd 11 21; exact Reg.gw hI
        ·have e3 : ρ (.tmp 3) = .int .i64 (k : Int) := hs 3
         refine Reg.yes ?_
         exact Reg.gw hI
        ·obtain ⟨_, rfl, e23⟩ := hd 13 23; have hc := hE.const
         refine Reg.yes ?_
         exact Reg.gw hI
        ·obtain ⟨_, rfl, e24⟩ := hd 14 24
         refine Reg.yes ?_
         exact Reg.gw hI
        ·have e0 : ρ (.tmp 0) = .slice (some ⟨b, off, none⟩) l.length cap := hs 0
         refine Reg.yes ?_
         exact Reg.gw hI
        ·have e3 : ρ (.tmp 3) = .int .i64 (k : Int) := hs 3
         refine Reg.yes ?_
         exact Reg.gw hI
        ·obtain ⟨_, rfl, e27⟩ := hd 17 27; have hc := hE.const
         refine Reg.yes ?_
         have hx := hw1.out; exact Reg.gw hI
        ·obtain ⟨_, rfl, e26⟩ := hd 16 26; obtain ⟨_, rfl, e28⟩ := hd 18 28
         refine Reg.yes ?_
         have hx4 : 1 ≤ (k : Int) := by omega
         have hx1 := hn1; have hx2 := hn2; have hx3 := hn3.out; exact Reg.gw hI
        ·obtain ⟨_, rfl, e29⟩ := hd 19 29
         refine Reg.yes ?_
         have hx := DP.out wi hI; exact Reg.gw hI
        ·have e0 : ρ (.tmp 0) = .slice (some ⟨b, off, none⟩) l.length cap := hs 0
         refine Reg.yes ?_
         exact Reg.gw hI
        ·have e3 : ρ (.tmp 3) = .int .i64 (k : Int) := hs 3
         refine Reg.yes ?_
         exact Reg.gw hI
        ·obtain ⟨_, rfl, e31⟩ := hd 21 31; obtain ⟨_, rfl, e32⟩ := hd 22 32
         refine Reg.yes ?_
         exact Reg.gw hI
        ·obtain ⟨_, rfl, e33⟩ := hd 23 33
         refine Reg.yes ?_
         have hx := D0.out wi hI; exact Reg.gw hI
        ·obtain ⟨_, rfl, e30⟩ := hd 20 30; obtain ⟨_, rfl, e34⟩ := hd 24 34
         refine Reg.yes ?_
         exact Reg.gw hI
        ·obtain ⟨_, rfl, e25⟩ := hd 15 25; obtain ⟨_, rfl, e35⟩ := hd 25 35; have hc := hE.const
         refine Reg.yes ?_
         exact Reg.gw hI
        ·obtain ⟨_, rfl, e22⟩ := hd 12 22; obtain ⟨_, rfl, e36⟩ := hd 26 36; have hc := hE.const; exact Reg.gw hI
       ·intro V w1 hV hI
        have hV27 : V 27 = .bool (decide (n ≤ p)) := hV 27 (by decide) rfl
        simp only [Reg.putsO, List.foldl_cons, List.foldl_nil, Act.put, List.setIfInBounds_toArray, List.set_cons_succ, List.set_cons_zero, hV27]
        replace hI : (fun a => Below wr.heap.size wr a) w1 := hI
        clear hV hV27
        rw [hpf]
        go_wp2_with fail
        go_roundw
        case rel => exact ⟨k + 1, by omega, by go_num, HZ, HBR.out.trans (hI.mono HBR.out.size)⟩
        case measure => simp [intOf]; omega
      ·have hpt := decide_eq_true (show n ≤ p by omega)
       have HF : Hid (rightNodes l = false) := Lib.hid (by rw [hz.out.2, HST.out, hp, decide_eq_false (by omega)]; rfl)
       clear hp
       go_wp2_with fail
       refine Reg.region_heavy (by kernel_rfl) 27 [27] (refNodes_d b off cap l.length k n p) (fun a => Below wr.heap.size wr a) (fun a => Below wr.heap.size wr a) (fun V => [(some 10, V 0), (some 11, V 1), (some 12, V 2), (some 13, V 3), (some 14, V 4), (some 15, V 5), (some 16, V 6), (some 17, V 7), (some 18, V 8), (some 19, V 9), (some 20, V 10), (some 21, V 11), (some 22, V 12), (some 23, V 13), (some 24, V 14), (some 25, V 15), (some 26, V 16), (some 27, V 17), (some 28, V 18), (some 29, V 19), (some 30, V 20), (some 31, V 21), (some 32, V 22), (some 33, V 23), (some 34, V 24), (some 35, V 25), (some 36, V 26), (some 37, V 27)]) (by kernel_rfl) (by kernel_rfl) (by kernel_rfl) (fun V => rfl) ?_ ?_ ?_
       ·exact (Below.refl _ _).drew
       ·intro i o ho
        have hi : i < 28 := (Array.getElem?_eq_some_iff.1 ho).1
        rcases i with _ | _ | _ | _ | _ | _ | _ | _ | _ | _ | _ | _ | _ | _ | _ | _ | _ | _ | _ | _ | _ | _ | _ | _ | _ | _ | _ | _ | i
        rotate_right
        ·omega
        all_goals obtain rfl := Option.some.inj ho
        all_goals intro ρ wi hE hI hs hd
        all_goals try dsimp only at hI
        ·have e0 : ρ (.tmp 0) = .slice (some ⟨b, off, none⟩) l.length cap := hs 0; exact Reg.gw hI
        ·have e3 : ρ (.tmp 3) = .int .i64 (k : Int) := hs 3; exact Reg.gw hI
        ·obtain ⟨_, rfl, e10⟩ := hd 0 10; obtain ⟨_, rfl, e11⟩ := hd 1 11; exact Reg.gw hI
        ·obtain ⟨_, rfl, e12⟩ := hd 2 12; have hx := D0.out wi hI; exact Reg.gw hI
        ·obtain ⟨_, rfl, e13⟩ := hd 3 13; have hc := hE.const; exact Reg.gw hI
        ·obtain ⟨_, rfl, e14⟩ := hd 4 14; exact Reg.gw hI
        ·have e0 : ρ (.tmp 0) = .slice (some ⟨b, off, none⟩) l.length cap := hs 0
         refine Reg.yes ?_
         exact Reg.gw hI
        ·have e3 : ρ (.tmp 3) = .int .i64 (k : Int) := hs 3
         refine Reg.yes ?_
         exact Reg.gw hI
        ·obtain ⟨_, rfl, e16⟩ := hd 6 16; obtain ⟨_, rfl, e17⟩ := hd 7 17
         refine Reg.yes ?_
         exact Reg.gw hI
        ·obtain ⟨_, rfl, e18⟩ := hd 8 18
         refine Reg.yes ?_
         have hx := D0.out wi hI; exact Reg.gw hI
        ·obtain ⟨_, rfl, e19⟩ := hd 9 19; have hc := hE.const
         refine Reg.yes ?_
         exact Reg.gw hI
        ·obtain ⟨_, rfl, e15⟩ := hd 5 15; obtain ⟨_, rfl, e20⟩ := hd 10 20; have hc := hE.const; exact Reg.gw hI
        ·obtain ⟨_, rfl, e21⟩ := hd 11 21; exact Reg.gw hI
        ·have e3 : ρ (.tmp 3) = .int .i64 (k : Int) := hs 3
         refine Reg.yes ?_
         exact Reg.gw hI
        ·obtain ⟨_, rfl, e23⟩ := hd 13 23; have hc := hE.const
         refine Reg.yes ?_
         exact Reg.gw hI
        ·obtain ⟨_, rfl, e24⟩ := hd 14 24
         refine Reg.yes ?_
         exact Reg.gw hI
        ·have e0 : ρ (.tmp 0) = .slice (some ⟨b, off, none⟩) l.length cap := hs 0
         refine Reg.yes ?_
         exact Reg.gw hI
        ·have e3 : ρ (.tmp 3) = .int .i64 (k : Int) := hs 3
         refine Reg.yes ?_
         exact Reg.gw hI
        ·obtain ⟨_, rfl, e27⟩ := hd 17 27; have hc := hE.const
         refine Reg.yes ?_
         have hx := hw1.out; exact Reg.gw hI
        ·obtain ⟨_, rfl, e26⟩ := hd 16 26; obtain ⟨_, rfl, e28⟩ := hd 18 28
         refine Reg.yes ?_
         have hx4 : 1 ≤ (k : Int) := by omega
         have hx1 := hn1; have hx2 := hn2; have hx3 := hn3.out; exact Reg.gw hI
        ·obtain ⟨_, rfl, e29⟩ := hd 19 29
         refine Reg.yes ?_
         have hx := DP.out wi hI; exact Reg.gw hI
        ·have e0 : ρ (.tmp 0) = .slice (some ⟨b, off, none⟩) l.length cap := hs 0
         refine Reg.yes ?_
         exact Reg.gw hI
        ·have e3 : ρ (.tmp 3) = .int .i64 (k : Int) := hs 3
         refine Reg.yes ?_
         exact Reg.gw hI
        ·obtain ⟨_, rfl, e31⟩ := hd 21 31; obtain ⟨_, rfl, e32⟩ := hd 22 32
         refine Reg.yes ?_
         exact Reg.gw hI
        ·obtain ⟨_, rfl, e33⟩ := hd 23 33
         refine Reg.yes ?_
         have hx := D0.out wi hI; exact Reg.gw hI
        ·obtain ⟨_, rfl, e30⟩ := hd 20 30; obtain ⟨_, rfl, e34⟩ := hd 24 34
         refine Reg.yes ?_
         exact Reg.gw hI
        ·obtain ⟨_, rfl, e25⟩ := hd 15 25; obtain ⟨_, rfl, e35⟩ := hd 25 35; have hc := hE.const
         refine Reg.yes ?_
         exact Reg.gw hI
        ·obtain ⟨_, rfl, e22⟩ := hd 12 22; obtain ⟨_, rfl, e36⟩ := hd 26 36; have hc := hE.const; exact Reg.gw hI
       ·intro V w1 hV hI
        have hV27 : V 27 = .bool (decide (n ≤ p)) := hV 27 (by decide) rfl
        simp only [Reg.putsO, List.foldl_cons, List.foldl_nil, Act.put, List.setIfInBounds_toArray, List.set_cons_succ, List.set_cons_zero, hV27]
        replace hI : (fun a => Below wr.heap.size wr a) w1 := hI
        clear hV hV27
        rw [hpt]
        go_wp2_with fail
        go_returns
        exact ⟨ret_bool HF.out, HBR.out.trans (hI.mono HBR.out.size)⟩
     ·have hk0 : k = 0 := by omega
      have HZ : Hid ((k + 1 = 0 ∨ 1 ≤ lastN l (k + 1)) ∧ rightNodes l = nodesFrom (lastN l (k + 1)) (l.drop (k + 1))) := Lib.hid ⟨Or.inr (by rw [HLS.out]; exact h1), by rw [hz.out.2, HST.out, decide_eq_true (by rw [hk0]; show (0 : Int) < n ∧ _; omega)]; rfl⟩
      have HK0 := Lib.hid hk0
      clear hk0
      clear HPR
      go_wp2_with fail
      refine Reg.region_heavy (by kernel_rfl) 27 [27] (refNodes_c b off cap l.length k n) (fun a => Below wr.heap.size wr a) (fun a => Below wr.heap.size wr a) (fun V => [(some 10, V 0), (some 11, V 1), (some 12, V 2), (some 13, V 3), (some 14, V 4), (some 15, V 5), (some 16, V 6), (some 17, V 7), (some 18, V 8), (some 19, V 9), (some 20, V 10), (some 21, V 11), (some 22, V 12), (some 23, V 13), (some 24, V 14), (some 25, V 15), (some 26, V 16), (some 27, V 17), (some 28, V 18), (some 29, V 19), (some 30, V 20), (some 31, V 21), (some 32, V 22), (some 33, V 23), (some 34, V 24), (some 35, V 25), (some 36, V 26), (some 37, V 27)]) (by kernel_rfl) (by kernel_rfl) (by kernel_rfl) (fun V => rfl) ?_ ?_ ?_
      ·exact (Below.refl _ _).drew
      ·intro i o ho
       have hi : i < 28 := (Array.getElem?_eq_some_iff.1 ho).1
       rcases i with _ | _ | _ | _ | _ | _ | _ | _ | _ | _ | _ | _ | _ | _ | _ | _ | _ | _ | _ | _ | _ | _ | _ | _ | _ | _ | _ | _ | i
       rotate_right
       ·omega
       all_goals obtain rfl := Option.some.inj ho
       all_goals intro ρ wi hE hI hs hd
       all_goals try dsimp only at hI
       ·have e0 : ρ (.tmp 0) = .slice (some ⟨b, off, none⟩) l.length cap := hs 0; exact Reg.gw hI
       ·have e3 : ρ (.tmp 3) = .int .i64 (k : Int) := hs 3; exact Reg.gw hI
       ·obtain ⟨_, rfl, e10⟩ := hd 0 10; obtain ⟨_, rfl, e11⟩ := hd 1 11; exact Reg.gw hI
       ·obtain ⟨_, rfl, e12⟩ := hd 2 12; have hx := D0.out wi hI; exact Reg.gw hI
       ·obtain ⟨_, rfl, e13⟩ := hd 3 13; have hc := hE.const; exact Reg.gw hI
       ·obtain ⟨_, rfl, e14⟩ := hd 4 14; exact Reg.gw hI
       ·have e0 : ρ (.tmp 0) = .slice (some ⟨b, off, none⟩) l.length cap := hs 0
        refine Reg.yes ?_
        exact Reg.gw hI
       ·have e3 : ρ (.tmp 3) = .int .i64 (k : Int) := hs 3
        refine Reg.yes ?_
        exact Reg.gw hI
       ·obtain ⟨_, rfl, e16⟩ := hd 6 16; obtain ⟨_, rfl, e17⟩ := hd 7 17
        refine Reg.yes ?_
        exact Reg.gw hI
       ·obtain ⟨_, rfl, e18⟩ := hd 8 18
        refine Reg.yes ?_
        have hx := D0.out wi hI; exact Reg.gw hI
       ·obtain ⟨_, rfl, e19⟩ := hd 9 19; have hc := hE.const
        refine Reg.yes ?_
        exact Reg.gw hI
       ·obtain ⟨_, rfl, e15⟩ := hd 5 15; obtain ⟨_, rfl, e20⟩ := hd 10 20; have hc := hE.const; exact Reg.gw hI
       ·obtain ⟨_, rfl, e21⟩ := hd 11 21; exact Reg.gw hI
       ·have e3 : ρ (.tmp 3) = .int .i64 (k : Int) := hs 3
        refine Reg.yes ?_
        exact Reg.gw hI
       ·obtain ⟨_, rfl, e23⟩ := hd 13 23; have hc := hE.const
        refine Reg.yes ?_
        have hx := HK0.out; exact Reg.gw hI
       ·obtain ⟨_, rfl, e24⟩ := hd 14 24
        refine Reg.yes ?_
        exact Reg.gw hI
       ·exact Reg.no hI
       ·exact Reg.no hI
       ·exact Reg.no hI
       ·exact Reg.no hI
       ·exact Reg.no hI
       ·exact Reg.no hI
       ·exact Reg.no hI
       ·exact Reg.no hI
       ·exact Reg.no hI
       ·exact Reg.no hI
       ·obtain ⟨_, rfl, e25⟩ := hd 15 25; obtain ⟨_, rfl, e35⟩ := hd 25 35; have hc := hE.const
        refine Reg.yes ?_
        exact Reg.gw hI
       ·obtain ⟨_, rfl, e22⟩ := hd 12 22; obtain ⟨_, rfl, e36⟩ := hd 26 36; have hc := hE.const; exact Reg.gw hI
      ·intro V w1 hV hI
       have hV27 : V 27 = .bool false := hV 27 (by decide) rfl
       simp only [Reg.putsO, List.foldl_cons, List.foldl_nil, Act.put, List.setIfInBounds_toArray, List.set_cons_succ, List.set_cons_zero, hV27]
       replace hI : (fun a => Below wr.heap.size wr a) w1 := hI
       clear hV hV27
       go_wp2_with fail
       go_roundw
       case rel => exact ⟨k + 1, by omega, by go_num, HZ, HBR.out.trans (hI.mono HBR.out.size)⟩
       case measure => simp [intOf]; omega
    ·have HF : Hid (rightNodes l = false) := Lib.hid (by rw [hz.out.2, HST.out, decide_eq_false (by omega)]; rfl)
     go_wp2_with fail
     refine Reg.region_heavy (by kernel_rfl) 27 [27] (refNodes_b b off cap l.length k n) (fun a => Below wr.heap.size wr a) (fun a => Below wr.heap.size wr a) (fun V => [(some 10, V 0), (some 11, V 1), (some 12, V 2), (some 13, V 3), (some 14, V 4), (some 15, V 5), (some 16, V 6), (some 17, V 7), (some 18, V 8), (some 19, V 9), (some 20, V 10), (some 21, V 11), (some 22, V 12), (some 23, V 13), (some 24, V 14), (some 25, V 15), (some 26, V 16), (some 27, V 17), (some 28, V 18), (some 29, V 19), (some 30, V 20), (some 31, V 21), (some 32, V 22), (some 33, V 23), (some 34, V 24), (some 35, V 25), (some 36, V 26), (some 37, V 27)]) (by kernel_rfl) (by kernel_rfl) (by kernel_rfl) (fun V => rfl) ?_ ?_ ?_
     ·exact (Below.refl _ _).drew
     ·intro i o ho
      have hi : i < 28 := (Array.getElem?_eq_some_iff.1 ho).1
      rcases i with _ | _ | _ | _ | _ | _ | _ | _ | _ | _ | _ | _ | _ | _ | _ | _ | _ | _ | _ | _ | _ | _ | _ | _ | _ | _ | _ | _ | i
      rotate_right
      ·omega
      all_goals obtain rfl := Option.some.inj ho
      all_goals intro ρ wi hE hI hs hd
      all_goals try dsimp only at hI
      ·have e0 : ρ (.tmp 0) = .slice (some ⟨b, off, none⟩) l.length cap := hs 0; exact Reg.gw hI
      ·have e3 : ρ (.tmp 3) = .int .i64 (k : Int) := hs 3; exact Reg.gw hI
      ·obtain ⟨_, rfl, e10⟩ := hd 0 10; obtain ⟨_, rfl, e11⟩ := hd 1 11; exact Reg.gw hI
      ·obtain ⟨_, rfl, e12⟩ := hd 2 12; have hx := D0.out wi hI; exact Reg.gw hI
      ·obtain ⟨_, rfl, e13⟩ := hd 3 13; have hc := hE.const; exact Reg.gw hI
      ·obtain ⟨_, rfl, e14⟩ := hd 4 14; exact Reg.gw hI
      ·have e0 : ρ (.tmp 0) = .slice (some ⟨b, off, none⟩) l.length cap := hs 0
       refine Reg.yes ?_
       exact Reg.gw hI
      ·have e3 : ρ (.tmp 3) = .int .i64 (k : Int) := hs 3
       refine Reg.yes ?_
       exact Reg.gw hI
      ·obtain ⟨_, rfl, e16⟩ := hd 6 16; obtain ⟨_, rfl, e17⟩ := hd 7 17
       refine Reg.yes ?_
       exact Reg.gw hI
      ·obtain ⟨_, rfl, e18⟩ := hd 8 18
       refine Reg.yes ?_
       have hx := D0.out wi hI; exact Reg.gw hI
      ·obtain ⟨_, rfl, e19⟩ := hd 9 19; have hc := hE.const
       refine Reg.yes ?_
       exact Reg.gw hI
      ·obtain ⟨_, rfl, e15⟩ := hd 5 15; obtain ⟨_, rfl, e20⟩ := hd 10 20; have hc := hE.const; exact Reg.gw hI
      ·obtain ⟨_, rfl, e21⟩ := hd 11 21; exact Reg.gw hI
      ·exact Reg.no hI
      ·exact Reg.no hI
      ·exact Reg.no hI
      ·exact Reg.no hI
      ·exact Reg.no hI
      ·exact Reg.no hI
      ·exact Reg.no hI
      ·exact Reg.no hI
      ·exact Reg.no hI
      ·exact Reg.no hI
      ·exact Reg.no hI
      ·exact Reg.no hI
      ·exact Reg.no hI
      ·exact Reg.no hI
      ·obtain ⟨_, rfl, e22⟩ := hd 12 22; obtain ⟨_, rfl, e36⟩ := hd 26 36; have hc := hE.const; exact Reg.gw hI
     ·intro V w1 hV hI
      have hV27 : V 27 = .bool true := hV 27 (by decide) rfl
      simp only [Reg.putsO, List.foldl_cons, List.foldl_nil, Act.put, List.setIfInBounds_toArray, List.set_cons_succ, List.set_cons_zero, hV27]
      replace hI : (fun a => Below wr.heap.size wr a) w1 := hI
      clear hV hV27
      go_wp2_with fail
      go_returns
      exact ⟨ret_bool HF.out, HBR.out.trans (hI.mono HBR.out.size)⟩
   ·have HF : Hid (rightNodes l = false) := Lib.hid (by
     rw [hz.out.2, HST.out, decide_eq_false (by
      rcases hz.out.1 with rfl | h
      ·show ¬ ((0 : Int) < n ∧ _)
       omega
      ·omega)]
     rfl)
    go_wp2_with fail
    refine Reg.region_heavy (by kernel_rfl) 27 [27] (refNodes_a b off cap l.length k n) (fun a => Below wr.heap.size wr a) (fun a => Below wr.heap.size wr a) (fun V => [(some 10, V 0), (some 11, V 1), (some 12, V 2), (some 13, V 3), (some 14, V 4), (some 15, V 5), (some 16, V 6), (some 17, V 7), (some 18, V 8), (some 19, V 9), (some 20, V 10), (some 21, V 11), (some 22, V 12), (some 23, V 13), (some 24, V 14), (some 25, V 15), (some 26, V 16), (some 27, V 17), (some 28, V 18), (some 29, V 19), (some 30, V 20), (some 31, V 21), (some 32, V 22), (some 33, V 23), (some 34, V 24), (some 35, V 25), (some 36, V 26), (some 37, V 27)]) (by kernel_rfl) (by kernel_rfl) (by kernel_rfl) (fun V => rfl) ?_ ?_ ?_
    ·exact (Below.refl _ _).drew
    ·intro i o ho
     have hi : i < 28 := (Array.getElem?_eq_some_iff.1 ho).1
     rcases i with _ | _ | _ | _ | _ | _ | _ | _ | _ | _ | _ | _ | _ | _ | _ | _ | _ | _ | _ | _ | _ | _ | _ | _ | _ | _ | _ | _ | i
     rotate_right
     ·omega
     all_goals obtain rfl := Option.some.inj ho
     all_goals intro ρ wi hE hI hs hd
     all_goals try dsimp only at hI
     ·have e0 : ρ (.tmp 0) = .slice (some ⟨b, off, none⟩) l.length cap := hs 0; exact Reg.gw hI
     ·have e3 : ρ (.tmp 3) = .int .i64 (k : Int) := hs 3; exact Reg.gw hI
     ·obtain ⟨_, rfl, e10⟩ := hd 0 10; obtain ⟨_, rfl, e11⟩ := hd 1 11; exact Reg.gw hI
     ·obtain ⟨_, rfl, e12⟩ := hd 2 12; have hx := D0.out wi hI; exact Reg.gw hI
     ·obtain ⟨_, rfl, e13⟩ := hd 3 13; have hc := hE.const; exact Reg.gw hI
     ·obtain ⟨_, rfl, e14⟩ := hd 4 14; exact Reg.gw hI
     ·exact Reg.no hI
     ·exact Reg.no hI
     ·exact Reg.no hI
     ·exact Reg.no hI
     ·exact Reg.no hI
     ·obtain ⟨_, rfl, e15⟩ := hd 5 15; obtain ⟨_, rfl, e20⟩ := hd 10 20; have hc := hE.const; exact Reg.gw hI
     ·obtain ⟨_, rfl, e21⟩ := hd 11 21; exact Reg.gw hI
     ·exact Reg.no hI
     ·exact Reg.no hI
     ·exact Reg.no hI
     ·exact Reg.no hI
     ·exact Reg.no hI
     ·exact Reg.no hI
     ·exact Reg.no hI
     ·exact Reg.no hI
     ·exact Reg.no hI
     ·exact Reg.no hI
     ·exact Reg.no hI
     ·exact Reg.no hI
     ·exact Reg.no hI
     ·exact Reg.no hI
     ·obtain ⟨_, rfl, e22⟩ := hd 12 22; obtain ⟨_, rfl, e36⟩ := hd 26 36; have hc := hE.const; exact Reg.gw hI
    ·intro V w1 hV hI
     have hV27 : V 27 = .bool true := hV 27 (by decide) rfl
     simp only [Reg.putsO, List.foldl_cons, List.foldl_nil, Act.put, List.setIfInBounds_toArray, List.set_cons_succ, List.set_cons_zero, hV27]
     replace hI : (fun a => Below wr.heap.size wr a) w1 := hI
     clear hV hV27
     go_wp2_with fail
     go_returns
     exact ⟨ret_bool HF.out, HBR.out.trans (hI.mono HBR.out.size)⟩
  ·have HF : Hid (rightNodes l = true) := Lib.hid (by rw [hz.out.2, List.drop_of_length_le (by omega)]; rfl)
   have HBR := Lib.hid hbr
   go_wp2_with fail
   go_returns
   exact ⟨ret_bool HF.out, HBR.out⟩
end Go.Proofs.Ytjeogeablbkhgaa.Item
