/-
  Layer 14: the document's Right, Bytes. Conditions: none.
-/
import Derived.Test.YtifcpglifcjdjaaSesBs
import Derived.Test.YtifcpglifcjdjaaSesRight
import Derived.Test.YtifcpglifcjdjaaReg4
namespace Go.Proofs.Ytifcpglifcjdjaa.Ses
set_option maxRecDepth 100000
open Go.RowKit Go.Deep Go.Proofs.Ytifcpglifcjdjaa.Mem
open Go.Proofs.Ytifcpglifcjdjaa.Wire (bs bs_app bs_size big big_length u64)

set_option maxHeartbeats 1000000 in
theorem rright_any (e : Ev) (hs : e.pay.size ≤ 140737488355328) (w : World) : Calls Try.prog 9 #[e.val] w fun r w' => r = .returned (.bool (rightE e)) ∧ Below w.heap.size w w' := by
  obtain ⟨wa, hwa⟩ : ∃ W, W = w.alloc (.cells #[.int .i64 e.kind, .int .i64 e.epoch, .int .i64 e.peer, .int .i64 e.seq, .string e.pay] 25) := ⟨_, rfl⟩
  have hba : Below w.heap.size w wa := by rw [hwa]; exact below_alloc _ _
  have hca : Cells wa w.heap.size 25 e.vals := by rw [hwa]; exact cells_new _ _ _ _ rfl
  have y0 := hca.cell (j := 0) rfl
  have y1 := hca.cell (j := 1) rfl
  have y2 := hca.cell (j := 2) rfl
  have y3 := hca.cell (j := 3) rfl
  have y4 := hca.cell (j := 4) rfl
  have HB := Lib.hid hba
  obtain ⟨v, hv⟩ : ∃ v, rightE e = v := ⟨_, rfl⟩
  rw [hv]
  unfold rightE at hv
  unfold Ev.val
  obtain ⟨kd, ep, pe, sq, pay⟩ := e
  dsimp only at hv hs y0 y1 y2 y3 y4 ⊢
  dsimp only at hwa
  clear hba hca
  by_cases t0 : ep < 1
  · have d0 : decide (ep < 1) = true := decide_eq_true t0
    obtain rfl : v = false := hv ▸ decide_eq_false (by omega)
    clear hv t0
    go_enter Try.func9, Try.ntmps9
    go_upto_region 1 with (fail)
    rw [← hwa]
    clear hwa
    go_wp2_with fail
    go_returns
    exact ⟨rfl, HB.out⟩
  have d0 : decide (ep < 1) = false := decide_eq_false t0
  by_cases t1 : 1099511627776 < ep
  · have d1 : decide (ep > 1099511627776) = true := decide_eq_true t1
    obtain rfl : v = false := hv ▸ decide_eq_false (by omega)
    clear hv t0 t1
    go_enter Try.func9, Try.ntmps9
    go_upto_region 1 with (fail)
    rw [← hwa]
    clear hwa
    go_wp2_with fail
    go_returns
    exact ⟨rfl, HB.out⟩
  have d1 : decide (ep > 1099511627776) = false := decide_eq_false t1
  by_cases t2 : pe < 0
  · have d2 : decide (pe < 0) = true := decide_eq_true t2
    obtain rfl : v = false := hv ▸ decide_eq_false (by omega)
    clear hv t0 t1 t2
    go_enter Try.func9, Try.ntmps9
    go_upto_region 1 with (fail)
    rw [← hwa]
    clear hwa
    go_wp2_with fail
    go_returns
    exact ⟨rfl, HB.out⟩
  have d2 : decide (pe < 0) = false := decide_eq_false t2
  by_cases t3 : 1099511627776 < pe
  · have d3 : decide (pe > 1099511627776) = true := decide_eq_true t3
    obtain rfl : v = false := hv ▸ decide_eq_false (by omega)
    clear hv t0 t1 t2 t3
    go_enter Try.func9, Try.ntmps9
    go_upto_region 1 with (fail)
    rw [← hwa]
    clear hwa
    go_wp2_with fail
    go_returns
    exact ⟨rfl, HB.out⟩
  have d3 : decide (pe > 1099511627776) = false := decide_eq_false t3
  by_cases t4 : sq < 0
  · have d4 : decide (sq < 0) = true := decide_eq_true t4
    obtain rfl : v = false := hv ▸ decide_eq_false (by omega)
    clear hv t0 t1 t2 t3 t4
    go_enter Try.func9, Try.ntmps9
    go_upto_region 1 with (fail)
    rw [← hwa]
    clear hwa
    go_wp2_with fail
    go_returns
    exact ⟨rfl, HB.out⟩
  have d4 : decide (sq < 0) = false := decide_eq_false t4
  by_cases t5 : 1099511627776 < sq
  · have d5 : decide (sq > 1099511627776) = true := decide_eq_true t5
    obtain rfl : v = false := hv ▸ decide_eq_false (by omega)
    clear hv t0 t1 t2 t3 t4 t5
    go_enter Try.func9, Try.ntmps9
    go_upto_region 1 with (fail)
    rw [← hwa]
    clear hwa
    go_wp2_with fail
    go_returns
    exact ⟨rfl, HB.out⟩
  have d5 : decide (sq > 1099511627776) = false := decide_eq_false t5
  by_cases k1 : kd = 1
  · subst k1
    by_cases t7 : 0 < sq
    · have d7 : decide (sq > 0) = true := decide_eq_true t7
      by_cases t8 : pay.size ≤ 4032
      · have d8 : decide ((pay.size : Int) ≤ 4032) = true := decide_eq_true (by omega)
        obtain rfl : v = true := hv ▸ decide_eq_true (by omega)
        clear hv t0 t1 t2 t3 t4 t5 t7 t8
        go_enter Try.func9, Try.ntmps9
        go_upto_region 1 with (fail)
        rw [← hwa]
        clear hwa
        go_wp2_with fail
        go_returns
        exact ⟨rfl, HB.out⟩
      · have d8 : decide ((pay.size : Int) ≤ 4032) = false := decide_eq_false (by omega)
        obtain rfl : v = false := hv ▸ decide_eq_false (by omega)
        clear hv t0 t1 t2 t3 t4 t5 t7 t8
        go_enter Try.func9, Try.ntmps9
        go_upto_region 1 with (fail)
        rw [← hwa]
        clear hwa
        go_wp2_with fail
        go_returns
        exact ⟨rfl, HB.out⟩
    · have d7 : decide (sq > 0) = false := decide_eq_false t7
      obtain rfl : v = false := hv ▸ decide_eq_false (by omega)
      clear hv t0 t1 t2 t3 t4 t5 t7
      go_enter Try.func9, Try.ntmps9
      go_upto_region 1 with (fail)
      rw [← hwa]
      clear hwa
      go_wp2_with fail
      go_returns
      exact ⟨rfl, HB.out⟩
  · have e1 : (kd == 1) = false := by simpa using k1
    by_cases k2 : kd = 2
    · subst k2
      by_cases t8 : pay.size = 0
      · obtain rfl := empty_of t8
        obtain rfl : v = true := hv ▸ decide_eq_true (by omega)
        clear hv t0 t1 t2 t3 t4 t5 t8
        go_enter Try.func9, Try.ntmps9
        go_upto_region 1 with (fail)
        rw [← hwa]
        clear hwa
        go_wp2_with fail
        go_returns
        exact ⟨rfl, HB.out⟩
      · have hne : pay.toList.isEmpty = false := by
          rw [ByteArray.toList_eq, List.isEmpty_eq_false_iff]
          intro e
          exact t8 (by rw [← toList_size, e]; rfl)
        obtain rfl : v = false := hv ▸ decide_eq_false (by omega)
        clear hv t0 t1 t2 t3 t4 t5 t8
        go_enter Try.func9, Try.ntmps9
        go_upto_region 1 with (fail)
        rw [← hwa]
        clear hwa
        go_wp2_with fail
        go_returns
        exact ⟨rfl, HB.out⟩
    · have e2 : (kd == 2) = false := by simpa using k2
      obtain rfl : v = false := hv ▸ decide_eq_false (by omega)
      clear hv t0 t1 t2 t3 t4 t5 k1 k2
      go_enter Try.func9, Try.ntmps9
      go_upto_region 1 with (fail)
      rw [← hwa]
      clear hwa
      go_wp2_with fail
      go_returns
      exact ⟨rfl, HB.out⟩
theorem rbig_any (n size : Nat) (w : World) (hn : n < 18446744073709551616) (hs : size ≤ 100) : Calls Try.prog 44 #[.int .u64 (n : Int), .int .i64 (size : Int)] w fun e w' => e = .returned (.string (bs (big n size))) ∧ Below w.heap.size w w' := Wire.big_any n size w hn hs
def sesRB1 (a b c d : Int) (l8 l13 l18 : List UInt8) (s : Nat) : Nat → Value → World → Prop
  | 0, v, _ => v = .pointer (some ⟨s, 0, none⟩)
  | 1, v, _ => v = .int .i64 a
  | 2, v, _ => v = .int .u64 ((u64 a : Nat) : Int)
  | 3, v, _ => v = .string (bs (big (u64 a) 1))
  | 4, v, _ => v = .pointer (some ⟨s, 1, none⟩)
  | 5, v, _ => v = .int .i64 b
  | 6, v, _ => v = .int .u64 ((u64 b : Nat) : Int)
  | 7, v, _ => v = .string (bs (big (u64 b) 8))
  | 8, v, _ => v = .string (bs l8)
  | 9, v, _ => v = .pointer (some ⟨s, 2, none⟩)
  | 10, v, _ => v = .int .i64 c
  | 11, v, _ => v = .int .u64 ((u64 c : Nat) : Int)
  | 12, v, _ => v = .string (bs (big (u64 c) 8))
  | 13, v, _ => v = .string (bs l13)
  | 14, v, _ => v = .pointer (some ⟨s, 3, none⟩)
  | 15, v, _ => v = .int .i64 d
  | 16, v, _ => v = .int .u64 ((u64 d : Nat) : Int)
  | 17, v, _ => v = .string (bs (big (u64 d) 8))
  | 18, v, _ => v = .string (bs l18)
  | 19, v, _ => v = .string (bs l18)
  | _, _, _ => True
theorem sesRB1_later {a b c d : Int} {l8 l13 l18 : List UInt8} {s : Nat} {j : Nat} {v : Value} {w w' : World} (_hb : Below w.heap.size w w') (h : sesRB1 a b c d l8 l13 l18 s j v w) : sesRB1 a b c d l8 l13 l18 s j v w' := by
  match j, h with
  | 0, h | 1, h | 2, h | 3, h | 4, h | 5, h | 6, h | 7, h | 8, h | 9, h | 10, h | 11, h | 12, h | 13, h | 14, h | 15, h | 16, h | 17, h | 18, h | 19, h => exact h
  | _ + 20, _ => exact trivial
def sesRB3 (pay : ByteArray) (hdl l6 l9 : List UInt8) (s : Nat) : Nat → Value → World → Prop
  | 0, v, _ => v = .string (bs hdl)
  | 1, v, _ => v = .pointer (some ⟨s, 4, none⟩)
  | 2, v, _ => v = .string pay
  | 3, v, _ => v = .int .i64 (pay.size : Int)
  | 4, v, _ => v = .int .u64 (pay.size : Int)
  | 5, v, _ => v = .string (bs (big pay.size 2))
  | 6, v, _ => v = .string (bs l6)
  | 7, v, _ => v = .pointer (some ⟨s, 4, none⟩)
  | 8, v, _ => v = .string pay
  | 9, v, _ => v = .string (bs l9)
  | 10, v, _ => v = .string (bs l9)
  | _, _, _ => True
theorem sesRB3_later {pay : ByteArray} {hdl l6 l9 : List UInt8} {s : Nat} {j : Nat} {v : Value} {w w' : World} (_hb : Below w.heap.size w w') (h : sesRB3 pay hdl l6 l9 s j v w) : sesRB3 pay hdl l6 l9 s j v w' := by
  match j, h with
  | 0, h | 1, h | 2, h | 3, h | 4, h | 5, h | 6, h | 7, h | 8, h | 9, h | 10, h => exact h
  | _ + 11, _ => exact trivial
set_option maxHeartbeats 1000000 in
theorem rbytes_any (e : Ev) (hr : rightE e = true) (w : World) : Calls Try.prog 13 #[e.val] w fun r w' => r = .returned (.string (bs (bytesE e))) ∧ Below w.heap.size w w' := by
  have hkind := right_kind hr
  have hps : e.pay.size ≤ 4032 := by
    have := of_decide_eq_true hr
    omega
  have hkd : u64 e.kind = e.kind.toNat := by
    unfold u64
    rcases hkind with ⟨h, _⟩ | ⟨h, _⟩ <;> rw [h] <;> rfl
  obtain ⟨w2, hw2⟩ : ∃ W, W = w.alloc (.cells #[.int .i64 e.kind, .int .i64 e.epoch, .int .i64 e.peer, .int .i64 e.seq, .string e.pay] 25) := ⟨_, rfl⟩
  have hb2 : Below w.heap.size w w2 := by rw [hw2]; exact below_alloc _ _
  have hc2 : Cells w2 w.heap.size 25 e.vals := by rw [hw2]; exact cells_new _ _ _ _ rfl
  have HBY : Hid (bytesE e = big (u64 e.kind) 1 ++ big (u64 e.epoch) 8 ++ big (u64 e.peer) 8 ++ big (u64 e.seq) 8 ++ (if e.kind = 1 then big e.pay.size 2 ++ e.pay.data.toList else [])) := Lib.hid (by
    unfold bytesE
    rw [nums3, hkd]
    simp only [List.append_assoc])
  have HU : Hid (∀ x : Int, IntKind.u64.wrap x = ((u64 x : Nat) : Int)) := Lib.hid fun x => by rw [IntKind.wrap_u64, Wire.u64_cast]
  have HB2 := Lib.hid hb2
  have HA := Lib.hid hc2
  have HPS := Lib.hid hps
  unfold Ev.val
  clear hb2 hc2 hkd hps hr
  obtain ⟨a, b, c, d, pay⟩ := e
  dsimp only at hkind HPS HBY hw2 ⊢
  go_enter Try.func13, Try.ntmps13
  go_upto_region 1 with (fail)
  rw [← hw2]
  clear hw2
  obtain ⟨l8, h8⟩ : ∃ l, big (u64 a) 1 ++ big (u64 b) 8 = l := ⟨_, rfl⟩
  obtain ⟨l13, h13⟩ : ∃ l, l8 ++ big (u64 c) 8 = l := ⟨_, rfl⟩
  obtain ⟨l18, h18⟩ : ∃ l, l13 ++ big (u64 d) 8 = l := ⟨_, rfl⟩
  have n8 : l8.length = 9 := by rw [← h8]; simp [big_length]
  have n13 : l13.length = 17 := by rw [← h13]; simp [big_length, n8]
  have n18 : l18.length = 25 := by rw [← h18]; simp [big_length, n13]
  have HP8 : Hid (bs (big (u64 a) 1) ++ bs (big (u64 b) 8) = bs l8 ∧ (bs (big (u64 a) 1)).size + (bs (big (u64 b) 8)).size ≤ 9223372036854775807) := Lib.hid ⟨by rw [bs_app, h8], by rw [bs_size, bs_size, big_length, big_length]; decide⟩
  have HP13 : Hid (bs l8 ++ bs (big (u64 c) 8) = bs l13 ∧ (bs l8).size + (bs (big (u64 c) 8)).size ≤ 9223372036854775807) := Lib.hid ⟨by rw [bs_app, h13], by rw [bs_size, bs_size, n8, big_length]; decide⟩
  have HP18 : Hid (bs l13 ++ bs (big (u64 d) 8) = bs l18 ∧ (bs l13).size + (bs (big (u64 d) 8)).size ≤ 9223372036854775807) := Lib.hid ⟨by rw [bs_app, h18], by rw [bs_size, bs_size, n13, big_length]; decide⟩
  rw [h8, h13, h18] at HBY
  have HN18 := Lib.hid n18
  clear h8 h13 h18 n8 n13 n18
  refine Reg.region_heavy (by kernel_rfl) 19 [19] (sesRB1 a b c d l8 l13 l18 w.heap.size) (fun a => Below w2.heap.size w2 a) (fun a => Below w2.heap.size w2 a) (fun V => [(some 4, V 0), (some 5, V 1), (some 6, V 2), (some 7, V 3), (some 8, V 4), (some 9, V 5), (some 10, V 6), (some 11, V 7), (some 12, V 8), (some 13, V 9), (some 14, V 10), (some 15, V 11), (some 16, V 12), (some 17, V 13), (some 18, V 14), (some 19, V 15), (some 20, V 16), (some 21, V 17), (some 22, V 18), (some 3, V 19)]) (by kernel_rfl) (by kernel_rfl) (by kernel_rfl) (fun V => rfl) ?_ ?_ ?_
  · exact (Below.refl _ _).drew
  · intro i o ho
    have hi : i < 20 := (Array.getElem?_eq_some_iff.1 ho).1
    rcases i with _ | _ | _ | _ | _ | _ | _ | _ | _ | _ | _ | _ | _ | _ | _ | _ | _ | _ | _ | _ | i
    rotate_right
    · omega
    all_goals obtain rfl := Option.some.inj ho
    all_goals intro ρ wi hE hI hs hd
    all_goals try dsimp only at hI
    · have e1 : ρ (.tmp 1) = .pointer (some ⟨w.heap.size, 0, none⟩) := hs 1; exact Reg.gw hI
    · obtain ⟨_, rfl, e4⟩ := hd 0 4; have hx := (HA.out.later hI).cell (j := 0) rfl; exact Reg.gw hI
    · obtain ⟨_, rfl, e5⟩ := hd 1 5; have hx := HU.out a; exact Reg.gw hI
    · obtain ⟨_, rfl, e6⟩ := hd 2 6; have hc := hE.const; have hf := hE.func
      refine Reg.Gives.call (f := 44) (args := #[.int .u64 ((u64 a : Nat) : Int), .int .i64 1]) (w' := wi) (by go_simp) ?_
      refine (rbig_any (u64 a) 1 wi (Wire.u64_lt a) (by decide)).mono ?_
      rintro e w'' ⟨rfl, hbb⟩
      exact ⟨_, rfl, ⟨rfl, hI.trans (hbb.mono hI.size), fun j u _ _ h => sesRB1_later hbb h⟩⟩
    · have e1 : ρ (.tmp 1) = .pointer (some ⟨w.heap.size, 0, none⟩) := hs 1; exact Reg.gw hI
    · obtain ⟨_, rfl, e8⟩ := hd 4 8; have hx := (HA.out.later hI).cell (j := 1) rfl; exact Reg.gw hI
    · obtain ⟨_, rfl, e9⟩ := hd 5 9; have hx := HU.out b; exact Reg.gw hI
    · obtain ⟨_, rfl, e10⟩ := hd 6 10; have hc := hE.const; have hf := hE.func
      refine Reg.Gives.call (f := 44) (args := #[.int .u64 ((u64 b : Nat) : Int), .int .i64 8]) (w' := wi) (by go_simp) ?_
      refine (rbig_any (u64 b) 8 wi (Wire.u64_lt b) (by decide)).mono ?_
      rintro e w'' ⟨rfl, hbb⟩
      exact ⟨_, rfl, ⟨rfl, hI.trans (hbb.mono hI.size), fun j u _ _ h => sesRB1_later hbb h⟩⟩
    · obtain ⟨_, rfl, e7⟩ := hd 3 7; obtain ⟨_, rfl, e11⟩ := hd 7 11; have hap := HP8.out.1; have hl := HP8.out.2; exact Reg.gw hI
    · have e1 : ρ (.tmp 1) = .pointer (some ⟨w.heap.size, 0, none⟩) := hs 1; exact Reg.gw hI
    · obtain ⟨_, rfl, e13⟩ := hd 9 13; have hx := (HA.out.later hI).cell (j := 2) rfl; exact Reg.gw hI
    · obtain ⟨_, rfl, e14⟩ := hd 10 14; have hx := HU.out c; exact Reg.gw hI
    · obtain ⟨_, rfl, e15⟩ := hd 11 15; have hc := hE.const; have hf := hE.func
      refine Reg.Gives.call (f := 44) (args := #[.int .u64 ((u64 c : Nat) : Int), .int .i64 8]) (w' := wi) (by go_simp) ?_
      refine (rbig_any (u64 c) 8 wi (Wire.u64_lt c) (by decide)).mono ?_
      rintro e w'' ⟨rfl, hbb⟩
      exact ⟨_, rfl, ⟨rfl, hI.trans (hbb.mono hI.size), fun j u _ _ h => sesRB1_later hbb h⟩⟩
    · obtain ⟨_, rfl, e12⟩ := hd 8 12; obtain ⟨_, rfl, e16⟩ := hd 12 16; have hap := HP13.out.1; have hl := HP13.out.2; exact Reg.gw hI
    · have e1 : ρ (.tmp 1) = .pointer (some ⟨w.heap.size, 0, none⟩) := hs 1; exact Reg.gw hI
    · obtain ⟨_, rfl, e18⟩ := hd 14 18; have hx := (HA.out.later hI).cell (j := 3) rfl; exact Reg.gw hI
    · obtain ⟨_, rfl, e19⟩ := hd 15 19; have hx := HU.out d; exact Reg.gw hI
    · obtain ⟨_, rfl, e20⟩ := hd 16 20; have hc := hE.const; have hf := hE.func
      refine Reg.Gives.call (f := 44) (args := #[.int .u64 ((u64 d : Nat) : Int), .int .i64 8]) (w' := wi) (by go_simp) ?_
      refine (rbig_any (u64 d) 8 wi (Wire.u64_lt d) (by decide)).mono ?_
      rintro e w'' ⟨rfl, hbb⟩
      exact ⟨_, rfl, ⟨rfl, hI.trans (hbb.mono hI.size), fun j u _ _ h => sesRB1_later hbb h⟩⟩
    · obtain ⟨_, rfl, e17⟩ := hd 13 17; obtain ⟨_, rfl, e21⟩ := hd 17 21; have hap := HP18.out.1; have hl := HP18.out.2; exact Reg.gw hI
    · obtain ⟨_, rfl, e22⟩ := hd 18 22; exact Reg.gw hI
  · intro V wz hV hI
    have hV19 : V 19 = .string (bs l18) := hV 19 (by decide) rfl
    simp only [Reg.putsO, List.foldl_cons, List.foldl_nil, Act.put, List.setIfInBounds_toArray, List.set_cons_succ, List.set_cons_zero, hV19]
    replace hI : (fun a => Below w2.heap.size w2 a) wz := hI
    clear hV hV19
    have HBZ := Lib.hid (HB2.out.trans (hI.mono HB2.out.size))
    have HA3 := Lib.hid (HA.out.later hI)
    have z0 := HA3.out.cell (j := 0) rfl
    dsimp only at z0
    clear hI
    rcases hkind with ⟨rfl, _⟩ | ⟨rfl, rfl⟩
    · rw [if_pos rfl] at HBY
      have HUS : Hid (IntKind.u64.wrap (pay.size : Int) = (pay.size : Int)) := Lib.hid (by rw [IntKind.wrap_u64]; have := HPS.out; omega)
      have HPL : Hid (pay.size < 18446744073709551616) := Lib.hid (by have := HPS.out; omega)
      obtain ⟨l6, h6⟩ : ∃ l, l18 ++ big pay.size 2 = l := ⟨_, rfl⟩
      obtain ⟨l9, h9⟩ : ∃ l, l6 ++ pay.data.toList = l := ⟨_, rfl⟩
      have n6 : l6.length = 27 := by rw [← h6, List.length_append, HN18.out, big_length]
      have HP6 : Hid (bs l18 ++ bs (big pay.size 2) = bs l6 ∧ (bs l18).size + (bs (big pay.size 2)).size ≤ 9223372036854775807) := Lib.hid ⟨by rw [bs_app, h6], by rw [bs_size, bs_size, HN18.out, big_length]; decide⟩
      have HP9 : Hid (bs l6 ++ pay = bs l9 ∧ (bs l6).size + pay.size ≤ 9223372036854775807) := Lib.hid ⟨by
        have h1 := bs_app l6 pay.data.toList
        rw [list_bs, h9] at h1
        exact h1, by rw [bs_size, n6]; have := HPS.out; omega⟩
      rw [← List.append_assoc, h6, h9] at HBY
      clear h6 h9 n6
      go_wp2_with fail
      refine Reg.region_heavy (by kernel_rfl) 10 [10] (sesRB3 pay l18 l6 l9 w.heap.size) (fun a => Below wz.heap.size wz a) (fun a => Below wz.heap.size wz a) (fun V => [(some 26, V 0), (some 27, V 1), (some 28, V 2), (some 29, V 3), (some 30, V 4), (some 31, V 5), (some 32, V 6), (some 33, V 7), (some 34, V 8), (some 35, V 9), (some 3, V 10)]) (by kernel_rfl) (by kernel_rfl) (by kernel_rfl) (fun V => rfl) ?_ ?_ ?_
      · exact (Below.refl _ _).drew
      · intro i o ho
        have hi : i < 11 := (Array.getElem?_eq_some_iff.1 ho).1
        rcases i with _ | _ | _ | _ | _ | _ | _ | _ | _ | _ | _ | i
        rotate_right
        · omega
        all_goals obtain rfl := Option.some.inj ho
        all_goals intro ρ wi hE hI hs hd
        all_goals try dsimp only at hI
        · have e3 : ρ (.tmp 3) = .string (bs l18) := hs 3; exact Reg.gw hI
        · have e1 : ρ (.tmp 1) = .pointer (some ⟨w.heap.size, 0, none⟩) := hs 1; exact Reg.gw hI
        · obtain ⟨_, rfl, e27⟩ := hd 1 27; have hx := (HA3.out.later hI).cell (j := 4) rfl; exact Reg.gw hI
        · obtain ⟨_, rfl, e28⟩ := hd 2 28; exact Reg.gw hI
        · obtain ⟨_, rfl, e29⟩ := hd 3 29; have hx := HUS.out; exact Reg.gw hI
        · obtain ⟨_, rfl, e30⟩ := hd 4 30; have hc := hE.const; have hf := hE.func
          refine Reg.Gives.call (f := 44) (args := #[.int .u64 (pay.size : Int), .int .i64 2]) (w' := wi) (by go_simp) ?_
          refine (rbig_any pay.size 2 wi HPL.out (by decide)).mono ?_
          rintro e w'' ⟨rfl, hbb⟩
          exact ⟨_, rfl, ⟨rfl, hI.trans (hbb.mono hI.size), fun j u _ _ h => sesRB3_later hbb h⟩⟩
        · obtain ⟨_, rfl, e26⟩ := hd 0 26; obtain ⟨_, rfl, e31⟩ := hd 5 31; have hap := HP6.out.1; have hl := HP6.out.2; exact Reg.gw hI
        · have e1 : ρ (.tmp 1) = .pointer (some ⟨w.heap.size, 0, none⟩) := hs 1; exact Reg.gw hI
        · obtain ⟨_, rfl, e33⟩ := hd 7 33; have hx := (HA3.out.later hI).cell (j := 4) rfl; exact Reg.gw hI
        · obtain ⟨_, rfl, e32⟩ := hd 6 32; obtain ⟨_, rfl, e34⟩ := hd 8 34; have hap := HP9.out.1; have hl := HP9.out.2; exact Reg.gw hI
        · obtain ⟨_, rfl, e35⟩ := hd 9 35; exact Reg.gw hI
      · intro V wy hV hI
        have hV10 : V 10 = .string (bs l9) := hV 10 (by decide) rfl
        simp only [Reg.putsO, List.foldl_cons, List.foldl_nil, Act.put, List.setIfInBounds_toArray, List.set_cons_succ, List.set_cons_zero, hV10]
        replace hI : (fun a => Below wz.heap.size wz a) wy := hI
        clear hV hV10
        have HBY2 := Lib.hid (HBZ.out.trans (hI.mono HBZ.out.size))
        clear hI
        go_wp2_with fail
        go_returns
        exact ⟨by rw [HBY.out]; rfl, HBY2.out⟩
    · rw [if_neg (by decide), List.append_nil] at HBY
      go_wp2_with fail
      go_returns
      exact ⟨by rw [HBY.out]; rfl, HBZ.out⟩
end Go.Proofs.Ytifcpglifcjdjaa.Ses
