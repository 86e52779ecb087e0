/- Part 54 of the proof. Conditions: none. -/
import Derived.Test.YtdkchpiinelmiaaGreatZ29
namespace Go.Proofs.YtdkchpiinelmiaaGreat.fN
open Go.RowKit Mem
theorem Ik (l : List Int) (k : Nat) (h : k - 1 < l.length) (h0 : 0 < k) : gJ l k = l[k - 1] := by
 unfold gJ; rw [if_neg (by omega), List.getElem?_eq_getElem h]
 rfl
def Ag (b off c m k : Nat) (n : Int) : Nat -> Value -> World -> Prop
 | 0, v, _ => v = .slice (some ⟨b, off, none⟩) m c
 | 1, v, _ => v = iv (k : Int)
 | 2, v, _ => v = .pointer (some ⟨b, off + k, none⟩)
 | 3, v, _ => v = iv n
 | 4, v, _ => v = .bool true
 | 5, v, _ => v = .bool true
 | 6, v, _ => v = undef
 | 7, v, _ => v = undef
 | 8, v, _ => v = undef
 | 9, v, _ => v = undef
 | 10, v, _ => v = undef
 | 11, v, _ => v = .bool true
 | 12, v, _ => v = .bool true
 | 13, v, _ => v = undef
 | 14, v, _ => v = undef
 | 15, v, _ => v = undef
 | 16, v, _ => v = undef
 | 17, v, _ => v = undef
 | 18, v, _ => v = undef
 | 19, v, _ => v = undef
 | 20, v, _ => v = undef
 | 21, v, _ => v = undef
 | 22, v, _ => v = undef
 | 23, v, _ => v = undef
 | 24, v, _ => v = undef
 | 25, v, _ => v = undef
 | 26, v, _ => v = undef
 | 27, v, _ => v = .bool true
 | _, _, _ => True
def Af (b off c m k : Nat) (n : Int) : Nat -> Value -> World -> Prop
 | 0, v, _ => v = .slice (some ⟨b, off, none⟩) m c
 | 1, v, _ => v = iv (k : Int)
 | 2, v, _ => v = .pointer (some ⟨b, off + k, none⟩)
 | 3, v, _ => v = iv n
 | 4, v, _ => v = .bool false
 | 5, v, _ => v = .bool false
 | 6, v, _ => v = .slice (some ⟨b, off, none⟩) m c
 | 7, v, _ => v = iv (k : Int)
 | 8, v, _ => v = .pointer (some ⟨b, off + k, none⟩)
 | 9, v, _ => v = iv n
 | 10, v, _ => v = .bool true
 | 11, v, _ => v = .bool true
 | 12, v, _ => v = .bool true
 | 13, v, _ => v = undef
 | 14, v, _ => v = undef
 | 15, v, _ => v = undef
 | 16, v, _ => v = undef
 | 17, v, _ => v = undef
 | 18, v, _ => v = undef
 | 19, v, _ => v = undef
 | 20, v, _ => v = undef
 | 21, v, _ => v = undef
 | 22, v, _ => v = undef
 | 23, v, _ => v = undef
 | 24, v, _ => v = undef
 | 25, v, _ => v = undef
 | 26, v, _ => v = undef
 | 27, v, _ => v = .bool true
 | _, _, _ => True
def Ae (b off c m k : Nat) (n : Int) : Nat -> Value -> World -> Prop
 | 0, v, _ => v = .slice (some ⟨b, off, none⟩) m c
 | 1, v, _ => v = iv (k : Int)
 | 2, v, _ => v = .pointer (some ⟨b, off + k, none⟩)
 | 3, v, _ => v = iv n
 | 4, v, _ => v = .bool false
 | 5, v, _ => v = .bool false
 | 6, v, _ => v = .slice (some ⟨b, off, none⟩) m c
 | 7, v, _ => v = iv (k : Int)
 | 8, v, _ => v = .pointer (some ⟨b, off + k, none⟩)
 | 9, v, _ => v = iv n
 | 10, v, _ => v = .bool false
 | 11, v, _ => v = .bool false
 | 12, v, _ => v = .bool false
 | 13, v, _ => v = iv (k : Int)
 | 14, v, _ => v = .bool false
 | 15, v, _ => v = .bool false
 | 16, v, _ => v = undef
 | 17, v, _ => v = undef
 | 18, v, _ => v = undef
 | 19, v, _ => v = undef
 | 20, v, _ => v = undef
 | 21, v, _ => v = undef
 | 22, v, _ => v = undef
 | 23, v, _ => v = undef
 | 24, v, _ => v = undef
 | 25, v, _ => v = undef
 | 26, v, _ => v = .bool false
 | 27, v, _ => v = .bool false
 | _, _, _ => True
def tv (b off c m k : Nat) (n p : Int) : Nat -> Value -> World -> Prop
 | 0, v, _ => v = .slice (some ⟨b, off, none⟩) m c
 | 1, v, _ => v = iv (k : Int)
 | 2, v, _ => v = .pointer (some ⟨b, off + k, none⟩)
 | 3, v, _ => v = iv n
 | 4, v, _ => v = .bool false
 | 5, v, _ => v = .bool false
 | 6, v, _ => v = .slice (some ⟨b, off, none⟩) m c
 | 7, v, _ => v = iv (k : Int)
 | 8, v, _ => v = .pointer (some ⟨b, off + k, none⟩)
 | 9, v, _ => v = iv n
 | 10, v, _ => v = .bool false
 | 11, v, _ => v = .bool false
 | 12, v, _ => v = .bool false
 | 13, v, _ => v = iv (k : Int)
 | 14, v, _ => v = .bool true
 | 15, v, _ => v = .bool true
 | 16, v, _ => v = .slice (some ⟨b, off, none⟩) m c
 | 17, v, _ => v = iv (k : Int)
 | 18, v, _ => v = iv ((k : Int) - 1)
 | 19, v, _ => v = .pointer (some ⟨b, off + (k - 1), none⟩)
 | 20, v, _ => v = iv p
 | 21, v, _ => v = .slice (some ⟨b, off, none⟩) m c
 | 22, v, _ => v = iv (k : Int)
 | 23, v, _ => v = .pointer (some ⟨b, off + k, none⟩)
 | 24, v, _ => v = iv n
 | 25, v, _ => v = .bool (decide (n <= p))
 | 26, v, _ => v = .bool (decide (n <= p))
 | 27, v, _ => v = .bool (decide (n <= p))
 | _, _, _ => True
set_option maxHeartbeats 400000 in
theorem mP (A : Option Addr) (l : List Int) (cap : Nat) (w : World) (hs : gZ w A l) (hm : l.length <= 1000000) :
  Calls Tryz.prog 72 #[.slice A l.length cap] w fun e w' => e = .returned (.bool (bn l)) /\ Below w.heap.size w w' := by
 have HS := ak hs; clear hs
 go_enter Tryz.func72, Tryz.ntmps72
 go_wp2_with fail
 go_loopw [3] (fun i wr => ∃ k : Nat, k <= l.length /\ i = iv (k : Int) /\ Hid ((k = 0 \/ 1 <= gJ l k) /\ bn l = dS (gJ l k) (l.drop k)) /\ Below w.heap.size w wr) (fun i _ => l.length - (intOf i).toNat)
 case atStart => exact ⟨0, Nat.zero_le _, rfl, ak ⟨Or.inl rfl, rfl⟩, Below.refl _ _⟩
 case round =>
  obtain ⟨k, hk, rfl, hz, hbr⟩ := hrel
  by_cases hlt : k < l.length
  ·obtain ⟨b, off, rfl, c0⟩ := HS.o k hlt
   have d0 := (hbr.cell (aH c0)).trans c0; have HST := ak (kI l k hlt); have UA := ak (lO l k hlt); have dA := ak hbr; have Ux : Hid (0 < k -> ∃ p : Int, gJ l k = p /\ wr.cell? ⟨b, off + (k - 1), none⟩ = some (iv p)) := ak fun h0 => by
    obtain ⟨b', off', he, hp⟩ := HS.o (k - 1) (by omega); obtain ⟨rfl, rfl⟩ : b' = b /\ off' = off := by simpa [eq_comm] using he
    exact ⟨_, Ik l k (by omega) h0, (hbr.cell (aH hp)).trans hp⟩
   have D0 : Hid (∀ wi, Below wr.heap.size wr wi -> wi.cell? ⟨b, off + k, none⟩ = some (iv l[k])) := ak fun wi hb => (hb.cell (aH d0)).trans d0
   clear c0 d0 hbr
   generalize l[k] = n at *
   by_cases h1 : 1 <= n
   ·by_cases h2 : n <= 16
    ·by_cases h0 : 0 < k
     ·obtain ⟨p, hp, cp⟩ := Ux.o h0
      have hw1 := ak (show IntKind.i64.wrap ((k : Int) - 1) = (k : Int) - 1 from IntWalk.i64_in _ (by omega))
      have hn1 : 0 <= (k : Int) - 1 := by omega
      have hn2 : (k : Int) - 1 < (l.length : Int) := by omega
      have t_ := ak (show ((k : Int) - 1).toNat = k - 1 by omega)
      have UQ : 0 < (k : Int) := by omega
      have DP : Hid (∀ wi, Below wr.heap.size wr wi -> wi.cell? ⟨b, off + (k - 1), none⟩ = some (iv p)) := ak fun wi hb => (hb.cell (aH cp)).trans cp
      clear cp
      by_cases mR : p < n
      ·have hpf := decide_eq_false (show ¬ n <= p by omega)
       have HZ : Hid ((k + 1 = 0 \/ 1 <= gJ l (k + 1)) /\ bn l = dS (gJ l (k + 1)) (l.drop (k + 1))) := ak ⟨Or.inr (by rw [UA.o]; exact h1), by rw [hz.o.2, HST.o, hp, decide_eq_true (by omega)]; rfl⟩; clear hp
       go_wp2_with fail
       refine N.rb 27 [27] (tv b off cap l.length k n p) wr (fun V => [(some 10, V 0), (some 11, V 1), (some 12, V 2), (some 13, V 3), (some 14, V 4), (some 15, V 5), (some 16, V 6), (some 17, V 7), (some 18, V 8), (some 19, V 9), (some 20, V 10), (some 21, V 11), (some 22, V 12), (some 23, V 13), (some 24, V 14), (some 25, V 15), (some 26, V 16), (some 27, V 17), (some 28, V 18), (some 29, V 19), (some 30, V 20), (some 31, V 21), (some 32, V 22), (some 33, V 23), (some 34, V 24), (some 35, V 25), (some 36, V 26), (some 37, V 27)]) ?_ ?_
       ·intro i o ho
        have hi : i < 28 := (Array.getElem?_eq_some_iff.1 ho).1; rcases i with _ | _ | _ | _ | _ | _ | _ | _ | _ | _ | _ | _ | _ | _ | _ | _ | _ | _ | _ | _ | _ | _ | _ | _ | _ | _ | _ | _ | i
        rotate_right
        ·omega
        all_goals obtain rfl := Option.some.inj ho
        all_goals intro ρ wi hE hI hs hd
        all_goals try dsimp only at hI
        all_goals (have e0 : ρ (.tmp 0) = .slice (some ⟨b, off, none⟩) l.length cap := hs 0; have e3 : ρ (.tmp 3) = iv (k : Int) := hs 3; have hc := hE.const)
        iterate 2 ·exact N.gw hI
        ·obtain ⟨_, rfl, e10⟩ := hd 0 10; obtain ⟨_, rfl, e11⟩ := hd 1 11; exact N.gw hI
        ·obtain ⟨_, rfl, e12⟩ := hd 2 12; have hx := D0.o wi hI; exact N.gw hI
        ·obtain ⟨_, rfl, l5⟩ := hd 3 13; exact N.gw hI
        ·obtain ⟨_, rfl, mZ⟩ := hd 4 14; exact N.gw hI
        ·have e0 : ρ (.tmp 0) = .slice (some ⟨b, off, none⟩) l.length cap := hs 0
         refine N.yes ?_; exact N.gw hI
        ·have e3 : ρ (.tmp 3) = iv (k : Int) := hs 3
         refine N.yes ?_; exact N.gw hI
        ·obtain ⟨_, rfl, e16⟩ := hd 6 16; obtain ⟨_, rfl, e17⟩ := hd 7 17
         refine N.yes ?_; exact N.gw hI
        ·obtain ⟨_, rfl, e18⟩ := hd 8 18
         refine N.yes ?_; have hx := D0.o wi hI; exact N.gw hI
        ·obtain ⟨_, rfl, e19⟩ := hd 9 19
         refine N.yes ?_; exact N.gw hI
        ·obtain ⟨_, rfl, mY⟩ := hd 5 15; obtain ⟨_, rfl, wL⟩ := hd 10 20; exact N.gw hI
        ·obtain ⟨_, rfl, ug⟩ := hd 11 21; exact N.gw hI
        ·have e3 : ρ (.tmp 3) = iv (k : Int) := hs 3
         refine N.yes ?_; exact N.gw hI
        ·obtain ⟨_, rfl, Fu⟩ := hd 13 23
         refine N.yes ?_; exact N.gw hI
        ·obtain ⟨_, rfl, DL⟩ := hd 14 24
         refine N.yes ?_; exact N.gw hI
        ·have e0 : ρ (.tmp 0) = .slice (some ⟨b, off, none⟩) l.length cap := hs 0
         refine N.yes ?_; exact N.gw hI
        ·have e3 : ρ (.tmp 3) = iv (k : Int) := hs 3
         refine N.yes ?_; exact N.gw hI
        ·obtain ⟨_, rfl, Bn⟩ := hd 17 27
         refine N.yes ?_; have hx := hw1.o; exact N.gw hI
        ·obtain ⟨_, rfl, zj⟩ := hd 16 26; obtain ⟨_, rfl, Bl⟩ := hd 18 28
         refine N.yes ?_; have KV : 1 <= (k : Int) := by omega
         have hx1 := hn1; have hx2 := hn2; have hx3 := t_.o; exact N.gw hI
        ·obtain ⟨_, rfl, wK⟩ := hd 19 29
         refine N.yes ?_; have hx := DP.o wi hI; exact N.gw hI
        ·have e0 : ρ (.tmp 0) = .slice (some ⟨b, off, none⟩) l.length cap := hs 0
         refine N.yes ?_; exact N.gw hI
        ·have e3 : ρ (.tmp 3) = iv (k : Int) := hs 3
         refine N.yes ?_; exact N.gw hI
        ·obtain ⟨_, rfl, uQ⟩ := hd 21 31; obtain ⟨_, rfl, zB⟩ := hd 22 32
         refine N.yes ?_; exact N.gw hI
        ·obtain ⟨_, rfl, Bk⟩ := hd 23 33
         refine N.yes ?_; have hx := D0.o wi hI; exact N.gw hI
        ·obtain ⟨_, rfl, e30⟩ := hd 20 30; obtain ⟨_, rfl, Bj⟩ := hd 24 34
         refine N.yes ?_; exact N.gw hI
        ·obtain ⟨_, rfl, DK⟩ := hd 15 25; obtain ⟨_, rfl, r9⟩ := hd 25 35
         refine N.yes ?_; exact N.gw hI
        obtain ⟨_, rfl, wT⟩ := hd 12 22; obtain ⟨_, rfl, r8⟩ := hd 26 36; exact N.gw hI
       intro V w1 hV hI
       have l8 : V 27 = .bool (decide (n <= p)) := hV 27 (by decide) rfl; simp only [N.aP, List.foldl_cons, List.foldl_nil, Act.put, List.setIfInBounds_toArray, List.set_cons_succ, List.set_cons_zero, l8]; replace hI : (fun a => Below wr.heap.size wr a) w1 := hI; clear hV l8; rw [hpf]
       go_wp2_with fail
       go_roundw
       case rel => exact ⟨k + 1, by omega, by go_num, HZ, dA.o.trans (hI.mono dA.o.size)⟩
       case measure => simp [intOf]; omega
      have hpt := decide_eq_true (show n <= p by omega)
      have HF : Hid (bn l = false) := ak (by rw [hz.o.2, HST.o, hp, decide_eq_false (by omega)]; rfl); clear hp
      go_wp2_with fail
      refine N.rb 27 [27] (tv b off cap l.length k n p) wr (fun V => [(some 10, V 0), (some 11, V 1), (some 12, V 2), (some 13, V 3), (some 14, V 4), (some 15, V 5), (some 16, V 6), (some 17, V 7), (some 18, V 8), (some 19, V 9), (some 20, V 10), (some 21, V 11), (some 22, V 12), (some 23, V 13), (some 24, V 14), (some 25, V 15), (some 26, V 16), (some 27, V 17), (some 28, V 18), (some 29, V 19), (some 30, V 20), (some 31, V 21), (some 32, V 22), (some 33, V 23), (some 34, V 24), (some 35, V 25), (some 36, V 26), (some 37, V 27)]) ?_ ?_
      ·intro i o ho
       have hi : i < 28 := (Array.getElem?_eq_some_iff.1 ho).1; rcases i with _ | _ | _ | _ | _ | _ | _ | _ | _ | _ | _ | _ | _ | _ | _ | _ | _ | _ | _ | _ | _ | _ | _ | _ | _ | _ | _ | _ | i
       rotate_right
       ·omega
       all_goals obtain rfl := Option.some.inj ho
       all_goals intro ρ wi hE hI hs hd
       all_goals try dsimp only at hI
       all_goals (have e0 : ρ (.tmp 0) = .slice (some ⟨b, off, none⟩) l.length cap := hs 0; have e3 : ρ (.tmp 3) = iv (k : Int) := hs 3; have hc := hE.const)
       iterate 2 ·exact N.gw hI
       ·obtain ⟨_, rfl, e10⟩ := hd 0 10; obtain ⟨_, rfl, e11⟩ := hd 1 11; exact N.gw hI
       ·obtain ⟨_, rfl, e12⟩ := hd 2 12; have hx := D0.o wi hI; exact N.gw hI
       ·obtain ⟨_, rfl, l5⟩ := hd 3 13; exact N.gw hI
       ·obtain ⟨_, rfl, mZ⟩ := hd 4 14; exact N.gw hI
       ·have e0 : ρ (.tmp 0) = .slice (some ⟨b, off, none⟩) l.length cap := hs 0
        refine N.yes ?_; exact N.gw hI
       ·have e3 : ρ (.tmp 3) = iv (k : Int) := hs 3
        refine N.yes ?_; exact N.gw hI
       ·obtain ⟨_, rfl, e16⟩ := hd 6 16; obtain ⟨_, rfl, e17⟩ := hd 7 17
        refine N.yes ?_; exact N.gw hI
       ·obtain ⟨_, rfl, e18⟩ := hd 8 18
        refine N.yes ?_; have hx := D0.o wi hI; exact N.gw hI
       ·obtain ⟨_, rfl, e19⟩ := hd 9 19
        refine N.yes ?_; exact N.gw hI
       ·obtain ⟨_, rfl, mY⟩ := hd 5 15; obtain ⟨_, rfl, wL⟩ := hd 10 20; exact N.gw hI
       ·obtain ⟨_, rfl, ug⟩ := hd 11 21; exact N.gw hI
       ·have e3 : ρ (.tmp 3) = iv (k : Int) := hs 3
        refine N.yes ?_; exact N.gw hI
       ·obtain ⟨_, rfl, Fu⟩ := hd 13 23
        refine N.yes ?_; exact N.gw hI
       ·obtain ⟨_, rfl, DL⟩ := hd 14 24
        refine N.yes ?_; exact N.gw hI
       ·have e0 : ρ (.tmp 0) = .slice (some ⟨b, off, none⟩) l.length cap := hs 0
        refine N.yes ?_; exact N.gw hI
       ·have e3 : ρ (.tmp 3) = iv (k : Int) := hs 3
        refine N.yes ?_; exact N.gw hI
       ·obtain ⟨_, rfl, Bn⟩ := hd 17 27
        refine N.yes ?_; have hx := hw1.o; exact N.gw hI
       ·obtain ⟨_, rfl, zj⟩ := hd 16 26; obtain ⟨_, rfl, Bl⟩ := hd 18 28
        refine N.yes ?_; have KV : 1 <= (k : Int) := by omega
        have hx1 := hn1; have hx2 := hn2; have hx3 := t_.o; exact N.gw hI
       ·obtain ⟨_, rfl, wK⟩ := hd 19 29
        refine N.yes ?_; have hx := DP.o wi hI; exact N.gw hI
       ·have e0 : ρ (.tmp 0) = .slice (some ⟨b, off, none⟩) l.length cap := hs 0
        refine N.yes ?_; exact N.gw hI
       ·have e3 : ρ (.tmp 3) = iv (k : Int) := hs 3
        refine N.yes ?_; exact N.gw hI
       ·obtain ⟨_, rfl, uQ⟩ := hd 21 31; obtain ⟨_, rfl, zB⟩ := hd 22 32
        refine N.yes ?_; exact N.gw hI
       ·obtain ⟨_, rfl, Bk⟩ := hd 23 33
        refine N.yes ?_; have hx := D0.o wi hI; exact N.gw hI
       ·obtain ⟨_, rfl, e30⟩ := hd 20 30; obtain ⟨_, rfl, Bj⟩ := hd 24 34
        refine N.yes ?_; exact N.gw hI
       ·obtain ⟨_, rfl, DK⟩ := hd 15 25; obtain ⟨_, rfl, r9⟩ := hd 25 35
        refine N.yes ?_; exact N.gw hI
       obtain ⟨_, rfl, wT⟩ := hd 12 22; obtain ⟨_, rfl, r8⟩ := hd 26 36; exact N.gw hI
      intro V w1 hV hI
      have l8 : V 27 = .bool (decide (n <= p)) := hV 27 (by decide) rfl; simp only [N.aP, List.foldl_cons, List.foldl_nil, Act.put, List.setIfInBounds_toArray, List.set_cons_succ, List.set_cons_zero, l8]; replace hI : (fun a => Below wr.heap.size wr a) w1 := hI; clear hV l8; rw [hpt]
      go_wp2_with fail
      go_returns
      exact ⟨aG HF.o, dA.o.trans (hI.mono dA.o.size)⟩
     have hk0 : k = 0 := by omega
     have HZ : Hid ((k + 1 = 0 \/ 1 <= gJ l (k + 1)) /\ bn l = dS (gJ l (k + 1)) (l.drop (k + 1))) := ak ⟨Or.inr (by rw [UA.o]; exact h1), by rw [hz.o.2, HST.o, decide_eq_true (by rw [hk0]; show (0 : Int) < n /\ _; omega)]; rfl⟩
     have zG := ak hk0; clear hk0; clear Ux
     go_wp2_with fail
     refine N.rb 27 [27] (Ae b off cap l.length k n) wr (fun V => [(some 10, V 0), (some 11, V 1), (some 12, V 2), (some 13, V 3), (some 14, V 4), (some 15, V 5), (some 16, V 6), (some 17, V 7), (some 18, V 8), (some 19, V 9), (some 20, V 10), (some 21, V 11), (some 22, V 12), (some 23, V 13), (some 24, V 14), (some 25, V 15), (some 26, V 16), (some 27, V 17), (some 28, V 18), (some 29, V 19), (some 30, V 20), (some 31, V 21), (some 32, V 22), (some 33, V 23), (some 34, V 24), (some 35, V 25), (some 36, V 26), (some 37, V 27)]) ?_ ?_
     ·intro i o ho
      have hi : i < 28 := (Array.getElem?_eq_some_iff.1 ho).1; rcases i with _ | _ | _ | _ | _ | _ | _ | _ | _ | _ | _ | _ | _ | _ | _ | _ | _ | _ | _ | _ | _ | _ | _ | _ | _ | _ | _ | _ | i
      rotate_right
      ·omega
      all_goals obtain rfl := Option.some.inj ho
      all_goals intro ρ wi hE hI hs hd
      all_goals try dsimp only at hI
      all_goals (have e0 : ρ (.tmp 0) = .slice (some ⟨b, off, none⟩) l.length cap := hs 0; have e3 : ρ (.tmp 3) = iv (k : Int) := hs 3; have hc := hE.const)
      iterate 2 ·exact N.gw hI
      ·obtain ⟨_, rfl, e10⟩ := hd 0 10; obtain ⟨_, rfl, e11⟩ := hd 1 11; exact N.gw hI
      ·obtain ⟨_, rfl, e12⟩ := hd 2 12; have hx := D0.o wi hI; exact N.gw hI
      ·obtain ⟨_, rfl, l5⟩ := hd 3 13; exact N.gw hI
      ·obtain ⟨_, rfl, mZ⟩ := hd 4 14; exact N.gw hI
      ·have e0 : ρ (.tmp 0) = .slice (some ⟨b, off, none⟩) l.length cap := hs 0
       refine N.yes ?_; exact N.gw hI
      ·have e3 : ρ (.tmp 3) = iv (k : Int) := hs 3
       refine N.yes ?_; exact N.gw hI
      ·obtain ⟨_, rfl, e16⟩ := hd 6 16; obtain ⟨_, rfl, e17⟩ := hd 7 17
       refine N.yes ?_; exact N.gw hI
      ·obtain ⟨_, rfl, e18⟩ := hd 8 18
       refine N.yes ?_; have hx := D0.o wi hI; exact N.gw hI
      ·obtain ⟨_, rfl, e19⟩ := hd 9 19
       refine N.yes ?_; exact N.gw hI
      ·obtain ⟨_, rfl, mY⟩ := hd 5 15; obtain ⟨_, rfl, wL⟩ := hd 10 20; exact N.gw hI
      ·obtain ⟨_, rfl, ug⟩ := hd 11 21; exact N.gw hI
      ·have e3 : ρ (.tmp 3) = iv (k : Int) := hs 3
       refine N.yes ?_; exact N.gw hI
      ·obtain ⟨_, rfl, Fu⟩ := hd 13 23
       refine N.yes ?_; have hx := zG.o; exact N.gw hI
      ·obtain ⟨_, rfl, DL⟩ := hd 14 24
       refine N.yes ?_; exact N.gw hI
      iterate 10 ·exact N.no hI
      ·obtain ⟨_, rfl, DK⟩ := hd 15 25; obtain ⟨_, rfl, r9⟩ := hd 25 35
       refine N.yes ?_; exact N.gw hI
      obtain ⟨_, rfl, wT⟩ := hd 12 22; obtain ⟨_, rfl, r8⟩ := hd 26 36; exact N.gw hI
     intro V w1 hV hI
     have l8 : V 27 = .bool false := hV 27 (by decide) rfl; simp only [N.aP, List.foldl_cons, List.foldl_nil, Act.put, List.setIfInBounds_toArray, List.set_cons_succ, List.set_cons_zero, l8]; replace hI : (fun a => Below wr.heap.size wr a) w1 := hI; clear hV l8
     go_wp2_with fail
     go_roundw
     case rel => exact ⟨k + 1, by omega, by go_num, HZ, dA.o.trans (hI.mono dA.o.size)⟩
     case measure => simp [intOf]; omega
    have HF : Hid (bn l = false) := ak (by rw [hz.o.2, HST.o, decide_eq_false (by omega)]; rfl)
    go_wp2_with fail
    refine N.rb 27 [27] (Af b off cap l.length k n) wr (fun V => [(some 10, V 0), (some 11, V 1), (some 12, V 2), (some 13, V 3), (some 14, V 4), (some 15, V 5), (some 16, V 6), (some 17, V 7), (some 18, V 8), (some 19, V 9), (some 20, V 10), (some 21, V 11), (some 22, V 12), (some 23, V 13), (some 24, V 14), (some 25, V 15), (some 26, V 16), (some 27, V 17), (some 28, V 18), (some 29, V 19), (some 30, V 20), (some 31, V 21), (some 32, V 22), (some 33, V 23), (some 34, V 24), (some 35, V 25), (some 36, V 26), (some 37, V 27)]) ?_ ?_
    ·intro i o ho
     have hi : i < 28 := (Array.getElem?_eq_some_iff.1 ho).1; rcases i with _ | _ | _ | _ | _ | _ | _ | _ | _ | _ | _ | _ | _ | _ | _ | _ | _ | _ | _ | _ | _ | _ | _ | _ | _ | _ | _ | _ | i
     rotate_right
     ·omega
     all_goals obtain rfl := Option.some.inj ho
     all_goals intro ρ wi hE hI hs hd
     all_goals try dsimp only at hI
     all_goals (have e0 : ρ (.tmp 0) = .slice (some ⟨b, off, none⟩) l.length cap := hs 0; have e3 : ρ (.tmp 3) = iv (k : Int) := hs 3; have hc := hE.const)
     iterate 2 ·exact N.gw hI
     ·obtain ⟨_, rfl, e10⟩ := hd 0 10; obtain ⟨_, rfl, e11⟩ := hd 1 11; exact N.gw hI
     ·obtain ⟨_, rfl, e12⟩ := hd 2 12; have hx := D0.o wi hI; exact N.gw hI
     ·obtain ⟨_, rfl, l5⟩ := hd 3 13; exact N.gw hI
     ·obtain ⟨_, rfl, mZ⟩ := hd 4 14; exact N.gw hI
     ·have e0 : ρ (.tmp 0) = .slice (some ⟨b, off, none⟩) l.length cap := hs 0
      refine N.yes ?_; exact N.gw hI
     ·have e3 : ρ (.tmp 3) = iv (k : Int) := hs 3
      refine N.yes ?_; exact N.gw hI
     ·obtain ⟨_, rfl, e16⟩ := hd 6 16; obtain ⟨_, rfl, e17⟩ := hd 7 17
      refine N.yes ?_; exact N.gw hI
     ·obtain ⟨_, rfl, e18⟩ := hd 8 18
      refine N.yes ?_; have hx := D0.o wi hI; exact N.gw hI
     ·obtain ⟨_, rfl, e19⟩ := hd 9 19
      refine N.yes ?_; exact N.gw hI
     ·obtain ⟨_, rfl, mY⟩ := hd 5 15; obtain ⟨_, rfl, wL⟩ := hd 10 20; exact N.gw hI
     ·obtain ⟨_, rfl, ug⟩ := hd 11 21; exact N.gw hI
     iterate 14 ·exact N.no hI
     obtain ⟨_, rfl, wT⟩ := hd 12 22; obtain ⟨_, rfl, r8⟩ := hd 26 36; exact N.gw hI
    intro V w1 hV hI
    have l8 : V 27 = .bool true := hV 27 (by decide) rfl; simp only [N.aP, List.foldl_cons, List.foldl_nil, Act.put, List.setIfInBounds_toArray, List.set_cons_succ, List.set_cons_zero, l8]; replace hI : (fun a => Below wr.heap.size wr a) w1 := hI; clear hV l8
    go_wp2_with fail
    go_returns
    exact ⟨aG HF.o, dA.o.trans (hI.mono dA.o.size)⟩
   have HF : Hid (bn l = false) := ak (by
    rw [hz.o.2, HST.o, decide_eq_false (by
     rcases hz.o.1 with rfl | h
     ·show ¬ ((0 : Int) < n /\ _)
      omega
     omega)]
    rfl)
   go_wp2_with fail
   refine N.rb 27 [27] (Ag b off cap l.length k n) wr (fun V => [(some 10, V 0), (some 11, V 1), (some 12, V 2), (some 13, V 3), (some 14, V 4), (some 15, V 5), (some 16, V 6), (some 17, V 7), (some 18, V 8), (some 19, V 9), (some 20, V 10), (some 21, V 11), (some 22, V 12), (some 23, V 13), (some 24, V 14), (some 25, V 15), (some 26, V 16), (some 27, V 17), (some 28, V 18), (some 29, V 19), (some 30, V 20), (some 31, V 21), (some 32, V 22), (some 33, V 23), (some 34, V 24), (some 35, V 25), (some 36, V 26), (some 37, V 27)]) ?_ ?_
   ·intro i o ho
    have hi : i < 28 := (Array.getElem?_eq_some_iff.1 ho).1; rcases i with _ | _ | _ | _ | _ | _ | _ | _ | _ | _ | _ | _ | _ | _ | _ | _ | _ | _ | _ | _ | _ | _ | _ | _ | _ | _ | _ | _ | i
    rotate_right
    ·omega
    all_goals obtain rfl := Option.some.inj ho
    all_goals intro ρ wi hE hI hs hd
    all_goals try dsimp only at hI
    all_goals (have hc := hE.const)
    ·have e0 : ρ (.tmp 0) = .slice (some ⟨b, off, none⟩) l.length cap := hs 0; exact N.gw hI
    ·have e3 : ρ (.tmp 3) = iv (k : Int) := hs 3; exact N.gw hI
    ·obtain ⟨_, rfl, e10⟩ := hd 0 10; obtain ⟨_, rfl, e11⟩ := hd 1 11; exact N.gw hI
    ·obtain ⟨_, rfl, e12⟩ := hd 2 12; have hx := D0.o wi hI; exact N.gw hI
    ·obtain ⟨_, rfl, l5⟩ := hd 3 13; exact N.gw hI
    ·obtain ⟨_, rfl, mZ⟩ := hd 4 14; exact N.gw hI
    iterate 5 ·exact N.no hI
    ·obtain ⟨_, rfl, mY⟩ := hd 5 15; obtain ⟨_, rfl, wL⟩ := hd 10 20; exact N.gw hI
    ·obtain ⟨_, rfl, ug⟩ := hd 11 21; exact N.gw hI
    iterate 14 ·exact N.no hI
    obtain ⟨_, rfl, wT⟩ := hd 12 22; obtain ⟨_, rfl, r8⟩ := hd 26 36; exact N.gw hI
   intro V w1 hV hI
   have l8 : V 27 = .bool true := hV 27 (by decide) rfl; simp only [N.aP, List.foldl_cons, List.foldl_nil, Act.put, List.setIfInBounds_toArray, List.set_cons_succ, List.set_cons_zero, l8]; replace hI : (fun a => Below wr.heap.size wr a) w1 := hI; clear hV l8
   go_wp2_with fail
   go_returns
   exact ⟨aG HF.o, dA.o.trans (hI.mono dA.o.size)⟩
  have HF : Hid (bn l = true) := ak (by rw [hz.o.2, List.drop_of_length_le (by omega)]; rfl)
  have dA := ak hbr
  go_wp2_with fail
  go_returns
  exact ⟨aG HF.o, dA.o⟩
