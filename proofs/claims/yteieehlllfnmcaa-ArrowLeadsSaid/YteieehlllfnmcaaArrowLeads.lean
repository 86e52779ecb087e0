/-
  P16.2: Where each find goes from node to node till it ends, one after the other, each ends at the node that asked ahead of it, and all arrows lead to the one that asked last. Conditions: none.
-/
import Derived.Test.YteieehlllfnmcaaArrLaw2
import Derived.Test.YteieehlllfnmcaaU8s
namespace Go.Proofs.Yteieehlllfnmcaa.ArrowLeads
set_option maxRecDepth 100000
open Go.ChangeShapes Go.WideShapes Go.ChangeAt Go.RowKit Go.Deep Go.Proofs.Yteieehlllfnmcaa.Mem Go.Proofs.Yteieehlllfnmcaa.Spn Go.Proofs.Yteieehlllfnmcaa.Arr

theorem Rw.congr {B vc n : Nat} {w : World} {V : Option Addr} {T T' : Nat → Nat} (h : Rw B w V vc n T) (hT : ∀ v, 1 ≤ v → v ≤ n → T v = T' v) : Rw B w V vc n T' := by
  have : tl n T = tl n T' := by
    apply List.ext_getElem?
    intro i
    rw [tl_get, tl_get]
    by_cases hi : i < n + 1
    · rw [if_pos hi, if_pos hi]
      unfold arT
      by_cases h0 : i = 0
      · rw [if_pos h0, if_pos h0]
      · rw [if_neg h0, if_neg h0, hT i (by omega) (by omega)]
    · rw [if_neg hi, if_neg hi]
  unfold Rw at h ⊢
  rw [← this]
  exact h
/-- What the law's inner loop asks of a step. -/
theorem step_pure {n a b k : Nat} (hn : n ≤ 16) (h1 : 1 ≤ a) (h2 : a ≤ n) (h3 : 1 ≤ b) (h4 : b ≤ n) (hk : k < dst a b) :
    edgeB (pth a b (k + 1)) (pth a b k) = true ∧ (midT a b k (pth a b (k + 1)) = pth a b (k + 1) ↔ ¬ k + 1 < dst a b) ∧ (k + 1 < dst a b → midT a b k (pth a b (k + 1)) = pth a b (k + 2)) := by
  have e1 := (pth_edge hn h1 h2 h3 h4 hk).1
  have e2 := mid_next hn h1 h2 h3 h4 hk
  refine ⟨edge_sym e1, ?_, fun e => ?_⟩
  · rw [e2]
    by_cases e : k + 1 = dst a b
    · rw [if_pos e, e, pth_last h1 (by omega) h3 (by omega)]
      simp
    · rw [if_neg e]
      have e3 := edge_ne (pth_edge hn h1 h2 h3 h4 (show k + 1 < dst a b by omega)).1
      constructor
      · intro e4; exact absurd e4.symm e3
      · intro e4; omega
  · rw [e2, if_neg (by omega)]
def tgtV (a b D j : Nat) : Nat := if j < D then pth a b (j + 1) else 0
theorem tgtV_lt {a b D j : Nat} (h : j < D) : tgtV a b D j = pth a b (j + 1) := if_pos h
set_option maxHeartbeats 2000000 in
theorem walk (nd ow : Nat) (h1 : nd ≤ 255) (h2 : ow ≤ 255) (A : Option Addr) (ks : List Int) (c : Nat) (w : World) (hs : U8s w A ks) (hk : ∀ k ∈ ks, 0 ≤ k ∧ k ≤ 255) (hl : ks.length ≤ 140737488351232) :
    Calls Try.prog 4 #[.int .u8 (nd : Int), .int .u8 (ow : Int), .slice A ks.length c] w fun e w' => e = .returned (.bool true) ∧ Below w.heap.size w w' := by
  have HA := Lib.hid (awake_any w)
  have HS := Lib.hid hs
  have HKS := Lib.hid hk
  obtain ⟨N, hN⟩ : ∃ N, ks.length = N := ⟨_, rfl⟩
  rw [hN] at hl ⊢
  have HN := Lib.hid hN
  obtain ⟨n, hn⟩ : ∃ n, 1 + nd % 16 = n := ⟨_, rfl⟩
  obtain ⟨o, ho⟩ : ∃ o, 1 + ow % n = o := ⟨_, rfl⟩
  have hn1 : 1 ≤ n := by omega
  have hn2 : n ≤ 16 := by omega
  have ho1 : 1 ≤ o := by omega
  have ho2 : o ≤ n := by have := Nat.mod_lt ow hn1; omega
  have hn' : (1 : Int) + ((nd : Int) % 16) = (n : Int) := by omega
  have ho' : (1 : Int) + ((ow : Int) % (n : Int)) = (o : Int) := by omega
  clear hs hk hN hn ho
  go_enter Try.func4, Try.ntmps4
  go_wp2_with fail
  refine HA.out.mono ?_
  rintro e w1 ⟨rfl, hb⟩
  have HB1 := Lib.hid hb
  have HG := Lib.hid (grow_any n o hn2 ho1 ho2 w1)
  clear hb HA
  go_wp2_with fail
  refine HG.out.mono ?_
  rintro e w2 ⟨g, vc, rfl, hr, hb⟩
  have HR2 := Lib.hid hr
  have HB2 := Lib.hid (HB1.out.trans (hb.mono HB1.out.size))
  obtain ⟨B, hB⟩ : ∃ B, w1.heap.size = B := ⟨_, rfl⟩
  rw [hB] at HR2
  obtain ⟨g', e, hg1, hg2⟩ := HR2.out.low
  obtain rfl : g = g' := by simpa using e
  have HGB : Hid (w.heap.size ≤ g) := Lib.hid (by have := HB1.out.size; omega)
  obtain ⟨l, hl1⟩ : ∃ l, n + 1 = l := ⟨_, rfl⟩
  rw [hl1]
  clear hr hb HG hB e hg1 hg2 hn' ho' HB1
  by_cases h60 : 60 < N
  · have e1 : decide ((N : Int) > 60) = true := decide_eq_true (by omega)
    go_wp2_with fail
    go_returns
    exact ⟨rfl, HB2.out⟩
  have e1 : decide ((N : Int) > 60) = false := decide_eq_false (by omega)
  go_wp2_with fail
  go_loopw [8, 50] (fun p i wr => ∃ (k b : Nat), p = .int .i64 (b : Int) ∧ i = .int .i64 (k : Int) ∧ k ≤ N ∧ 1 ≤ b ∧ b ≤ n ∧ Hid (Rw B wr (some ⟨g, 0, none⟩) vc n (fun v => nx v b)) ∧ Hid (Below w.heap.size w wr)) (fun _ i _ => N - (intOf i).toNat)
  case atStart => exact ⟨0, o, rfl, rfl, Nat.zero_le _, ho1, ho2, HR2, HB2⟩
  case round =>
    obtain ⟨k, b, rfl, rfl, hkN, hb1, hb2, HR, HB⟩ := hrel
    clear HR2 HB2
    by_cases hlt : k < N
    · have hkl : k < ks.length := by rw [HN.out]; exact hlt
      obtain ⟨g5, off, rfl, hc⟩ := (HS.out.later HB.out) k hkl
      obtain ⟨q1, q2⟩ := HKS.out ks[k] (List.getElem_mem hkl)
      obtain ⟨x, hx⟩ : ∃ x : Nat, ks[k] = (x : Int) := ⟨ks[k].toNat, by omega⟩
      rw [hx] at hc q1 q2
      obtain ⟨a, ha⟩ : ∃ a, 1 + x % n = a := ⟨_, rfl⟩
      have ha1 : 1 ≤ a := by omega
      have ha2 : a ≤ n := by have := Nat.mod_lt x hn1; omega
      have ha' : (1 : Int) + ((x : Int) % (n : Int)) = (a : Int) := by omega
      have hal : a < l := by omega
      have hxb : x ≤ 255 := by omega
      have HW := Lib.hid (tWant HR.out ha1 ha2)
      obtain ⟨D, hD⟩ : ∃ D, dst a b = D := ⟨_, rfl⟩
      have HD := Lib.hid hD
      have hz := (AB.of ha1 (show a ≤ 16 by omega) hb1 (show b ≤ 16 by omega)).zero
      have hD7 : D ≤ 7 := by rw [← hD]; exact dst7 ha1 (by omega) hb1 (by omega)
      have HW2 : Hid (Calls Try.prog 17 #[.pointer (some ⟨g, a * 3, none⟩)] wr fun e w' => e = .returned (.tuple #[.int .i64 (tgtV a b D 0 : Int), .bool (decide (0 < D))]) ∧ Rw B w' (some ⟨g, 0, none⟩) vc n (midT a b 0) ∧ Only (fun j => j = g) wr w') := Lib.hid (by
        refine HW.out.mono ?_
        rintro e w' ⟨rfl, hr, ho⟩
        rw [mid_zero hn2 ha1 ha2 hb1 hb2] at hr
        refine ⟨?_, hr, ho⟩
        have e5 := (nx_in hn2 ha1 ha2 hb1 hb2).2.2.1
        by_cases e6 : a = b
        · have e7 : ¬ 0 < D := by rw [← hD]; have := hz.2 e6; omega
          unfold tgtV
          rw [if_pos (e5.2 e6), decide_eq_true (e5.2 e6), if_neg e7, decide_eq_false e7]
          rfl
        · have e7 : 0 < D := by rw [← hD]; have : dst a b ≠ 0 := fun e => e6 (hz.1 e); omega
          have e8 := (path_nx ha1 (show a ≤ 16 by omega) hb1 (show b ≤ 16 by omega) (show 0 < dst a b by rw [hD]; exact e7)).2
          have e9 := pth_zero ha1 (show a ≤ 16 by omega) hb1 (show b ≤ 16 by omega)
          unfold pth at e9
          rw [e9] at e8
          have e10 : nx a b = pth a b 1 := e8
          have e11 : ¬ nx a b = a := fun e => e6 (e5.1 e)
          unfold tgtV
          rw [if_neg e11, decide_eq_false e11, if_pos e7, decide_eq_true e7, e10]
          rfl)
      clear HW hz hD ha hx hkl
      go_wp2_with fail
      refine HW2.out.mono ?_
      rintro e w3 ⟨rfl, hr, ho⟩
      have HR3 := Lib.hid hr
      have HB3 := Lib.hid (HB.out.trans (ho.below HB.out.size fun k e => by rw [e]; exact HGB.out))
      clear hr ho HW2 HR HB hc
      have hp0 : pth a b 0 = a := pth_zero ha1 (by omega) hb1 (by omega)
      have HP0 := Lib.hid hp0
      clear hp0
      go_wp2_with fail
      go_loopw [14, 15, 16, 17] (fun t gs p s wq => ∃ j : Nat, j ≤ D ∧ t = .int .i64 (tgtV a b D j : Int) ∧ gs = .bool (decide (j < D)) ∧ p = .int .i64 (pth a b j : Int) ∧ s = .int .i64 (j : Int) ∧ Hid (Rw B wq (some ⟨g, 0, none⟩) vc n (midT a b j)) ∧ Hid (Below w.heap.size w wq)) (fun _ _ _ s _ => D - (intOf s).toNat)
      case atStart => exact ⟨0, Nat.zero_le _, by trivial, by trivial, by rw [HP0.out], rfl, HR3, HB3⟩
      case round =>
        obtain ⟨j, hj, rfl, rfl, rfl, rfl, HRj, HBj⟩ := hrel
        clear HR3 HB3
        by_cases hjD : j < D
        · have hjd : j < dst a b := by rw [HD.out]; exact hjD
          obtain ⟨s1, s2, s3⟩ := step_pure hn2 ha1 ha2 hb1 hb2 hjd
          obtain ⟨t1, t2⟩ := pth_in (k := j + 1) hn2 ha1 ha2 hb1 hb2 (by omega)
          obtain ⟨u1, u2⟩ := pth_in (k := j) hn2 ha1 ha2 hb1 hb2 (by omega)
          have HF0 := tFind HRj.out hn2 t1 t2 u1 u2 s1
          rw [mid_upd hn2 ha1 ha2 hb1 hb2 hjd] at HF0
          rw [HD.out] at s2 s3
          obtain ⟨t, ht⟩ : ∃ t, pth a b (j + 1) = t := ⟨_, rfl⟩
          obtain ⟨u, hu⟩ : ∃ u, pth a b j = u := ⟨_, rfl⟩
          rw [ht] at s2 s3 t1 t2 HF0
          rw [hu] at HF0 ⊢
          have HF : Hid (Calls Try.prog 18 #[.pointer (some ⟨g, t * 3, none⟩), .int .i64 (u : Int)] wr fun e w' => e = .returned (.tuple #[.int .i64 (tgtV a b D (j + 1) : Int), .bool (!decide (j + 1 < D)), .int .i64 0]) ∧ Rw B w' (some ⟨g, 0, none⟩) vc n (midT a b (j + 1)) ∧ Only (fun j => j = g) wr w') := Lib.hid (by
            refine HF0.mono ?_
            rintro e w' ⟨rfl, hr, ho⟩
            refine ⟨?_, hr, ho⟩
            by_cases e6 : j + 1 < D
            · have e7 : ¬ midT a b j t = t := fun e => s2.1 e e6
              unfold tgtV
              rw [if_neg e7, decide_eq_false e7, if_pos e6, decide_eq_true e6, s3 e6]
              rfl
            · have e7 := s2.2 e6
              unfold tgtV
              rw [if_pos e7, decide_eq_true e7, if_neg e6, decide_eq_false e6]
              rfl)
          have HT := Lib.hid ht
          have e2 : decide (j < D) = true := decide_eq_true hjD
          rw [e2, tgtV_lt hjD]
          have htl : t < l := by omega
          have e3 : decide ((t : Int) < 1) = false := decide_eq_false (by omega)
          have e4 : decide ((t : Int) > (n : Int)) = false := decide_eq_false (by omega)
          have e5 : decide ((j : Int) > 40) = false := decide_eq_false (by omega)
          obtain ⟨t9, ht9⟩ : ∃ t9, tgtV a b D (j + 1) = t9 := ⟨_, rfl⟩
          obtain ⟨b9, hb9⟩ : ∃ b9, decide (j + 1 < D) = b9 := ⟨_, rfl⟩
          rw [ht9, hb9] at HF
          have HT9 := Lib.hid ht9
          have HB9 := Lib.hid hb9
          clear HF0 s1 s2 s3 hjd hu ht9 hb9
          rw [ht]
          clear ht
          go_wp2_with fail
          refine HF.out.mono ?_
          rintro e w4 ⟨rfl, hr, ho⟩
          have HR4 := Lib.hid hr
          have HB4 := Lib.hid (HBj.out.trans (ho.below HBj.out.size fun k e => by rw [e]; exact HGB.out))
          clear hr ho HF HRj HBj
          go_wp2_with fail
          go_roundw
          case rel => exact ⟨j + 1, by omega, by rw [HT9.out], by rw [HB9.out], by rw [HT.out], by go_num, HR4, HB4⟩
          case measure => simp [intOf]; omega
        · obtain rfl : j = D := by omega
          have e2 : decide (j < j) = false := decide_eq_false (by omega)
          rw [e2]
          have hpl : pth a b j = b := by rw [← HD.out]; exact pth_last ha1 (by omega) hb1 (by omega)
          have hmo : Rw B wr (some ⟨g, 0, none⟩) vc n (fun v => nx v a) := Rw.congr HRj.out fun v e1 e2 => by rw [← HD.out]; exact mid_over hn2 ha1 ha2 hb1 hb2 e1 e2
          have HR5 := Lib.hid hmo
          rw [hpl]
          clear hpl hmo HRj
          go_wp2_with fail
          go_loopw [22] (fun m wq => ∃ i : Nat, m = .int .i64 ((i + 1 : Nat) : Int) ∧ i ≤ n ∧ Hid (Rw B wq (some ⟨g, 0, none⟩) vc n (fun v => nx v a)) ∧ Hid (Below w.heap.size w wq)) (fun m _ => n + 1 - (intOf m).toNat)
          case atStart => exact ⟨0, by go_num, Nat.zero_le _, HR5, HBj⟩
          case round =>
            obtain ⟨i, rfl, hi, HR6, HB6⟩ := hrel
            clear HR5 HBj
            obtain ⟨m, hm⟩ : ∃ m, i + 1 = m := ⟨_, rfl⟩
            rw [hm]
            by_cases hmn : m ≤ n
            · have hm1 : 1 ≤ m := by omega
              have hdm : decide ((m : Int) ≤ (n : Int)) = true := decide_eq_true (by omega)
              have HL := Lib.hid (leads_any HR6.out hn2 ha1 ha2 hm1 hmn fun v _ _ => rfl)
              rw [hl1] at HL
              go_wp2_with fail
              refine HL.out.mono ?_
              rintro e w7 ⟨rfl, hw7⟩
              have HR7 : Hid (Rw B w7 (some ⟨g, 0, none⟩) vc n (fun v => nx v a)) := Lib.hid (by obtain ⟨q, rfl⟩ := hw7; exact HR6.out.later (below_drew _ q))
              have HB7 : Hid (Below w.heap.size w w7) := Lib.hid (by obtain ⟨q, rfl⟩ := hw7; exact below_drewN HB6.out q)
              clear hw7 HL HR6 HB6
              go_wp2_with fail
              go_roundw
              case rel => exact ⟨m, by go_num, hmn, HR7, HB7⟩
              case measure => simp [intOf]; omega
            · have hdm : decide ((m : Int) ≤ (n : Int)) = false := decide_eq_false (by omega)
              go_wp2_with fail
              go_roundw
              case rel => exact ⟨k + 1, a, rfl, by go_num, by omega, ha1, ha2, HR6, HB6⟩
              case measure => simp [intOf]; omega
    · obtain rfl : k = N := by omega
      go_wp2_with fail
      go_returns
      exact ⟨rfl, HB.out⟩
theorem opened {H : Type} {enc : TypeId × Value → H} {W : World} {base : Nat} {gs : List (DataW H)} (v0 : Value) (d0 : DataW H) (p0 : List MemPlace) (v1 : Value) (d1 : DataW H) (p1 : List MemPlace) (v2 : Value) (d2 : DataW H) (p2 : List MemPlace)
    (o0 : Value.okWide Try.prog W .any base 5 v0) (t0 : DataW.Trod enc Try.prog W 0 (fun _ => true) true 5 v0 d0 p0)
    (o1 : Value.okWide Try.prog W .any base 5 v1) (t1 : DataW.Trod enc Try.prog W 0 (fun _ => true) true 5 v1 d1 p1)
    (o2 : Value.okWide Try.prog W .any base 47 v2) (t2 : DataW.Trod enc Try.prog W 0 (fun _ => true) true 47 v2 d2 p2)
    (hsz : (DataW.weightsEach Try.prog ([5, 5, 47] ++ []) ([d0, d1, d2] ++ gs)).all (· ≤ reachBytes) = true) :
    Calls Try.prog 4 #[v0, v1, v2] W fun e W' => e = .returned (.bool true) ∧ Below W.heap.size W W' := by
  obtain ⟨x, rfl, hx⟩ := Spn.arg_u8 o0 t0
  obtain ⟨y, rfl, hy⟩ := Spn.arg_u8 o1 t1
  obtain ⟨A, ks, cap, rfl, h1, h2, _, _, h3⟩ := arg_bytes o2 t2 (Base.small_of hsz (j := 2) rfl rfl)
  exact walk x y hx hy A ks cap W h1 h2 h3

theorem contract (H : Type) (enc : TypeId × Value → H) (W : World) (base : Nat) (args : Array Value) (ds gs : List (DataW H)) (before : List MemPlace)
    (hval : ∀ (j : Nat) t v, Try.f4.params[j]? = some t → args[j]? = some v → Value.okWide Try.prog W .any base t v)
    (hW : DataW.Whole enc Try.prog Try.f4.params.toList Rows.arrowLeadsSpec.vars false W args.toList ds gs before)
    (hsz : (DataW.weightsEach Try.prog (Try.f4.params.toList ++ []) (ds ++ gs)).all (· ≤ reachBytes) = true) :
    Calls Try.prog 4 args W fun e W' => ∃ v, e = .returned v ∧ Rows.arrowLeadsSpec.post enc Try.prog Try.f4 false true false false W args v W' := by
  have hW0 := hW
  obtain ⟨p, q, hA0, hV, rfl, _, _⟩ := hW
  have hA : DataW.TrodAll enc Try.prog W 0 (fun _ => true) true Try.f4.params.toList args.toList ds p := hA0
  rw [Try.params4] at hA hval hsz
  obtain ⟨v0, vs0, d0, ds0, p0, q0, hargs, rfl, rfl, h0, r0⟩ := trodAll_cons hA
  obtain ⟨v1, vs1, d1, ds1, p1, q1, rfl, rfl, rfl, h1, r1⟩ := trodAll_cons r0
  obtain ⟨v2, vs2, d2, ds2, p2, q2, rfl, rfl, rfl, h2, r2⟩ := trodAll_cons r1
  obtain ⟨rfl, rfl, rfl⟩ := trodAll_nil r2
  obtain rfl : args = #[v0, v1, v2] := by cases args; simp_all
  refine (opened v0 d0 p0 v1 d1 p1 v2 d2 p2 (hval 0 5 v0 rfl rfl) h0 (hval 1 5 v1 rfl rfl) h1 (hval 2 47 v2 rfl rfl) h2 hsz).mono fun e W' ⟨he, hb⟩ => ⟨_, he, ?_⟩
  exact Base.law_post (tb := 4) Base.laidOut (by kernel_rfl) rfl Try.underlying4 rfl (fun l hl => by
    rw [Try.params4] at hl
    match l, hl with
    | [_, _, _], _ => rfl) (by rw [Try.params4]; rfl) hW0 hb

theorem laid_met (os : Os) : laidMet Try.prog Rows.arrowLeadsRow.laid ((Base.plainWorld os).forCall (fun _ _ => 0) ⟨#[], #[.int .u8 0, .int .u8 0, .slice none 0 0], []⟩).memory := laidMet_nil _ _
theorem reads (os : Os) {H : Type} (enc : TypeId × Value → H) : ∃ places, DataW.whole enc Try.prog ((Base.plainWorld os).forCall (fun _ _ => 0) ⟨#[], #[.int .u8 0, .int .u8 0, .slice none 0 0], []⟩).memory Try.f4.params.toList Rows.arrowLeadsSpec.vars false (#[.int .u8 0, .int .u8 0, .slice none 0 0] : Array Value).toList 8 = some ([.lit (.int .u8 0), .lit (.int .u8 0), .nil], [], places) :=
  ⟨[], by kernel_rfl⟩

set_option maxRecDepth 100000 in
theorem lifted (os : Os) (started : os.Started) (H : Type) (enc : TypeId × Value → H) (F : Stop.Interp) :
    ReturnsInHanded {} Try.checked os 4 .any ((OpenSpec.ofChange Rows.arrowLeadsSpec).preRow enc Try.prog Try.f4 Rows.arrowLeadsRow.domain false Rows.arrowLeadsRow.laid) (((OpenSpec.ofChange Rows.arrowLeadsSpec).at F).post enc Try.prog Try.f4 false true false false) := by
  obtain ⟨places, hx⟩ := reads os enc
  refine returnsInHanded_of_row (C := Try.checked) (s := OpenSpec.ofChange Rows.arrowLeadsSpec) Base.own started (by kernel_rfl) Try.func4
    (witness_row_at (enc := enc) (C := Try.checked) false (Base.plainWorld os) #[.int .u8 0, .int .u8 0, .slice none 0 0] rfl (by kernel_rfl) (by kernel_rfl) (by kernel_rfl)
      (OpenSpec.preRow_of_cond 8 hx (by kernel_rfl) (fun k hk => by cases hk) (by kernel_rfl) (laid_met os))) ?_
  intro W base args ds gs before hval hW _ _ hsz _ _ _
  exact contract H enc W base args ds gs before hval hW hsz

theorem said : Rows.ArrowLeadsSaid :=
  OpenClaim.holds_of_cond 4 Try.f4 rfl rfl rfl rfl rfl rfl rfl ⟨rfl, rfl, rfl, rfl, rfl⟩ rfl rfl rfl rfl rfl (by kernel_rfl) Try.func4 (by kernel_rfl)
    (of_decide_eq_true (by kernel_rfl)) (by unfold Func.isWrapper; rw [if_neg (of_decide_eq_false (by kernel_rfl))]; exact ⟨rfl, rfl⟩)
    (fun os started H enc _ F => by rw [OpenClaim.pre_eq_preRow]; exact lifted os started H enc F)
#print axioms said
end Go.Proofs.Yteieehlllfnmcaa.ArrowLeads
