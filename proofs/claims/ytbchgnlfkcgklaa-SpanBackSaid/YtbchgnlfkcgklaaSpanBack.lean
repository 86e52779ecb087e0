/-
  P15.1: The path back is the path turned round; no path is longer than the two depths together. Conditions: none.
-/
import Derived.Test.YtbchgnlfkcgklaaSpnLaw
namespace Go.Proofs.Ytbchgnlfkcgklaa.SpanBack
set_option maxRecDepth 100000
open Go.ChangeShapes Go.WideShapes Go.ChangeAt Go.RowKit Go.Deep Go.Proofs.Ytbchgnlfkcgklaa.Mem Go.Proofs.Ytbchgnlfkcgklaa.Spn

set_option maxHeartbeats 4000000 in
theorem walk (f t m : Nat) (h1 : f ≤ 255) (h2 : t ≤ 255) (h3 : m ≤ 255) (w : World) : Calls Try.prog 6 #[.int .u8 (f : Int), .int .u8 (t : Int), .int .u8 (m : Int)] w fun e w' => e = .returned (.bool true) ∧ Below w.heap.size w w' := by
  have HA := Lib.hid (awake_any w)
  obtain ⟨n, hn⟩ : ∃ n, 1 + m % 16 = n := ⟨_, rfl⟩
  obtain ⟨a, ha⟩ : ∃ a, 1 + f % n = a := ⟨_, rfl⟩
  obtain ⟨b, hb⟩ : ∃ b, 1 + t % n = b := ⟨_, rfl⟩
  have hn1 : 1 ≤ n := by omega
  have hn2 : n ≤ 16 := by omega
  have ha1 : 1 ≤ a := by omega
  have ha2 : a ≤ n := by have := Nat.mod_lt f hn1; omega
  have hb1 : 1 ≤ b := by omega
  have hb2 : b ≤ n := by have := Nat.mod_lt t hn1; omega
  have hAB := AB.of ha1 (show a ≤ 16 by omega) hb1 (show b ≤ 16 by omega)
  have hpi : pathI (a : Int) (b : Int) (n : Int) = pathL a b := by unfold pathI; rw [if_pos (by unfold hasB; simp; omega), Int.toNat_natCast, Int.toNat_natCast]
  have hpj : pathI (b : Int) (a : Int) (n : Int) = (pathL a b).reverse := by unfold pathI; rw [if_pos (by unfold hasB; simp; omega), Int.toNat_natCast, Int.toNat_natCast, hAB.back]
  have hda : depI (a : Int) = Nat.log2 a := by unfold depI; rw [if_neg (by omega), Int.toNat_natCast]
  have hdb : depI (b : Int) = Nat.log2 b := by unfold depI; rw [if_neg (by omega), Int.toNat_natCast]
  have hlen := hAB.len
  have hlog := hAB.log
  obtain ⟨L, hL⟩ : ∃ L, pathL a b = L := ⟨_, rfl⟩
  obtain ⟨da, hla⟩ : ∃ q, Nat.log2 a = q := ⟨_, rfl⟩
  obtain ⟨db, hlb⟩ : ∃ q, Nat.log2 b = q := ⟨_, rfl⟩
  rw [hL] at hpi hpj hlen
  rw [hla] at hda hlog
  rw [hlb] at hdb hlog
  have HP1 : Hid (∀ wq, Calls Try.prog 17 #[.int .i64 (a : Int), .int .i64 (b : Int), .int .i64 (n : Int)] wq fun e w' => ∃ v, e = .returned v ∧ NR wq.heap.size w' v L ∧ Below wq.heap.size wq w') := Lib.hid fun wq => by rw [← hpi]; exact Path_any _ _ _ wq
  have HP2 : Hid (∀ wq, Calls Try.prog 17 #[.int .i64 (b : Int), .int .i64 (a : Int), .int .i64 (n : Int)] wq fun e w' => ∃ v, e = .returned v ∧ NR wq.heap.size w' v L.reverse ∧ Below wq.heap.size wq w') := Lib.hid fun wq => by rw [← hpj]; exact Path_any _ _ _ wq
  have HD1 : Hid (∀ wq, Calls Try.prog 10 #[.int .i64 (a : Int)] wq fun e w' => e = .returned (.int .i64 (da : Int)) ∧ w' = wq) := Lib.hid fun wq => by rw [← hda]; exact Depth_any _ (by omega) wq
  have HD2 : Hid (∀ wq, Calls Try.prog 10 #[.int .i64 (b : Int)] wq fun e w' => e = .returned (.int .i64 (db : Int)) ∧ w' = wq) := Lib.hid fun wq => by rw [← hdb]; exact Depth_any _ (by omega) wq
  obtain ⟨d, hd⟩ : ∃ q, dst a b = q := ⟨_, rfl⟩
  rw [hd] at hlen hlog
  have hda16 : da ≤ 16 := by have := (Nat.log2_lt (n := a) (k := 16) (by omega)).2 (by omega); omega
  have hdb16 : db ≤ 16 := by have := (Nat.log2_lt (n := b) (k := 16) (by omega)).2 (by omega); omega
  have HLEN := Lib.hid hlen
  have hn' : (1 : Int) + ((m : Int) % 16) = (n : Int) := by omega
  have ha' : (1 : Int) + ((f : Int) % (n : Int)) = (a : Int) := by omega
  have hb' : (1 : Int) + ((t : Int) % (n : Int)) = (b : Int) := by omega
  have HNAB := Lib.hid (And.intro hn' (And.intro ha' hb'))
  obtain ⟨n1, hn1L⟩ : ∃ q, L.length = q := ⟨_, rfl⟩
  have hn1d : n1 = d + 1 := by omega
  have HNL := Lib.hid hn1L
  have HND := Lib.hid hn1d
  have hn140 : 1 ≤ n1 := by omega
  have hn133 : n1 ≤ 33 := by omega
  clear hAB hpi hpj hda hdb hlen hL hla hlb hd hn ha hb hn1L HLEN HNAB hn1d
  go_enter Try.func6, Try.ntmps6
  go_wp2_with fail
  refine HA.out.mono ?_
  rintro e w1 ⟨rfl, hq1⟩
  have HB1 := Lib.hid hq1
  clear hq1 HA
  go_upto_region 4 with (fail)
  go_region
  have HB2 := Lib.hid HB1.out.drew
  obtain ⟨w2, hw2⟩ : ∃ W, W = w1.drew := ⟨_, rfl⟩
  rw [← hw2] at HB2 ⊢
  clear hw2 hn' ha' hb' HB1
  go_wp2_with fail
  refine (HP1.out w2).mono ?_
  rintro e w3 ⟨v, rfl, hrow, hq⟩
  obtain ⟨A, c, rfl, hir, _, _⟩ := hrow.islice
  have HI1 := Lib.hid hir
  have HB3 := Lib.hid (HB2.out.trans (hq.mono HB2.out.size))
  rw [HNL.out]
  clear hrow hq hir HP1 HB2
  go_wp2_with fail
  refine (HP2.out w3).mono ?_
  rintro e w4 ⟨v, rfl, hrow, hq⟩
  obtain ⟨A4, c4, rfl, hir4, _, _⟩ := hrow.islice
  have HI4 := Lib.hid hir4
  have HI3 := Lib.hid (HI1.out.later hq)
  have HB4 := Lib.hid (HB3.out.trans (hq.mono HB3.out.size))
  rw [List.length_reverse, HNL.out]
  clear hrow hq hir4 HP2 HB3 HI1
  go_wp2_with fail
  go_loopw [39] (fun i wr => ∃ k : Nat, k ≤ n1 ∧ i = .int .i64 (k : Int) ∧ Hid (Below w4.heap.size w4 wr)) (fun i _ => n1 - (intOf i).toNat)
  case atStart => exact ⟨0, Nat.zero_le _, rfl, Lib.hid (Below.refl _ _)⟩
  case round =>
    obtain ⟨k, hk, rfl, HB⟩ := hrel
    by_cases hlt : k < n1
    · have hkL : k < L.length := by rw [HNL.out]; exact hlt
      obtain ⟨q, hq⟩ : ∃ q, n1 - 1 - k = q := ⟨_, rfl⟩
      have hqn : q < n1 := by omega
      obtain ⟨g1, o1, rfl, c1⟩ := HI3.out.later HB.out k (by rw [List.length_map]; exact hkL)
      obtain ⟨g4, o4, rfl, cc4⟩ := HI4.out.later HB.out q (by rw [List.length_map, List.length_reverse, HNL.out]; exact hqn)
      rw [List.getElem_map] at c1 cc4
      have hgr : ∀ h, L.reverse[q]'h = L[k] := fun h => by
        rw [List.getElem_reverse]
        congr 1
        rw [HNL.out]
        omega
      rw [hgr] at cc4
      obtain ⟨x, hx⟩ : ∃ x, L[k] = x := ⟨_, rfl⟩
      rw [hx] at c1 cc4
      have hqi : (n1 : Int) - 1 - (k : Int) = (q : Int) := by omega
      have e1 : decide (n1 ≤ k) = false := decide_eq_false (by omega)
      clear hgr hx hkL hq
      go_upto_region 9 with (fail)
      go_quiet (fail)
      go_wp2_with fail
      go_roundw
      case rel => exact ⟨k + 1, by omega, by go_num, Lib.hid (below_drewN HB.out _)⟩
      case measure => simp [intOf]; omega
    · obtain rfl : k = n1 := by omega
      have e1 : decide ((k : Int) ≥ 1) = true := decide_eq_true (by omega)
      have e2 : decide ((k : Int) - 1 ≤ (da : Int) + (db : Int)) = true := decide_eq_true (by have := HND.out; omega)
      go_wp2_with fail
      refine (HD1.out wr).mono ?_
      rintro e w6 ⟨rfl, rfl⟩
      go_wp2_with fail
      refine (HD2.out w6).mono ?_
      rintro e w7 ⟨rfl, rfl⟩
      go_wp2_with fail
      go_returns
      exact ⟨rfl, HB4.out.trans (HB.out.mono HB4.out.size)⟩
theorem opened {H : Type} {enc : TypeId × Value → H} {W : World} {base : Nat} {gs : List (DataW H)} (v0 : Value) (d0 : DataW H) (p0 : List MemPlace) (v1 : Value) (d1 : DataW H) (p1 : List MemPlace) (v2 : Value) (d2 : DataW H) (p2 : List MemPlace)
    (o0 : Value.okWide Try.prog W .any base 5 v0) (t0 : DataW.Trod enc Try.prog W 0 (fun _ => true) true 5 v0 d0 p0)
    (o1 : Value.okWide Try.prog W .any base 5 v1) (t1 : DataW.Trod enc Try.prog W 0 (fun _ => true) true 5 v1 d1 p1)
    (o2 : Value.okWide Try.prog W .any base 5 v2) (t2 : DataW.Trod enc Try.prog W 0 (fun _ => true) true 5 v2 d2 p2)
    (_hsz : (DataW.weightsEach Try.prog ([5, 5, 5] ++ []) ([d0, d1, d2] ++ gs)).all (· ≤ reachBytes) = true) :
    Calls Try.prog 6 #[v0, v1, v2] W fun e W' => e = .returned (.bool true) ∧ Below W.heap.size W W' := by
  obtain ⟨x, rfl, hx⟩ := arg_u8 o0 t0
  obtain ⟨y, rfl, hy⟩ := arg_u8 o1 t1
  obtain ⟨z, rfl, hz⟩ := arg_u8 o2 t2
  exact walk x y z hx hy hz W

theorem contract (H : Type) (enc : TypeId × Value → H) (W : World) (base : Nat) (args : Array Value) (ds gs : List (DataW H)) (before : List MemPlace)
    (hval : ∀ (j : Nat) t v, Try.f6.params[j]? = some t → args[j]? = some v → Value.okWide Try.prog W .any base t v)
    (hW : DataW.Whole enc Try.prog Try.f6.params.toList Rows.spanBackSpec.vars false W args.toList ds gs before)
    (hsz : (DataW.weightsEach Try.prog (Try.f6.params.toList ++ []) (ds ++ gs)).all (· ≤ reachBytes) = true) :
    Calls Try.prog 6 args W fun e W' => ∃ v, e = .returned v ∧ Rows.spanBackSpec.post enc Try.prog Try.f6 false true false false W args v W' := by
  have hW0 := hW
  obtain ⟨p, q, hA0, hV, rfl, _, _⟩ := hW
  have hA : DataW.TrodAll enc Try.prog W 0 (fun _ => true) true Try.f6.params.toList args.toList ds p := hA0
  rw [Try.params6] at hA hval hsz
  obtain ⟨v0, vs0, d0, ds0, p0, q0, hargs, rfl, rfl, h0, r0⟩ := trodAll_cons hA
  obtain ⟨v1, vs1, d1, ds1, p1, q1, rfl, rfl, rfl, h1, r1⟩ := trodAll_cons r0
  obtain ⟨v2, vs2, d2, ds2, p2, q2, rfl, rfl, rfl, h2, r2⟩ := trodAll_cons r1
  obtain ⟨rfl, rfl, rfl⟩ := trodAll_nil r2
  obtain rfl : args = #[v0, v1, v2] := by cases args; simp_all
  refine (opened v0 d0 p0 v1 d1 p1 v2 d2 p2 (hval 0 5 v0 rfl rfl) h0 (hval 1 5 v1 rfl rfl) h1 (hval 2 5 v2 rfl rfl) h2 hsz).mono fun e W' ⟨he, hb⟩ => ⟨_, he, ?_⟩
  exact Base.law_post (tb := 4) Base.laidOut (by kernel_rfl) rfl Try.underlying4 rfl (fun l hl => by
    rw [Try.params6] at hl
    match l, hl with
    | [_, _, _], _ => rfl) (by rw [Try.params6]; rfl) hW0 hb

theorem laid_met (os : Os) : laidMet Try.prog Rows.spanBackRow.laid ((Base.plainWorld os).forCall (fun _ _ => 0) ⟨#[], #[.int .u8 0, .int .u8 0, .int .u8 0], []⟩).memory := laidMet_nil _ _
theorem reads (os : Os) {H : Type} (enc : TypeId × Value → H) : ∃ places, DataW.whole enc Try.prog ((Base.plainWorld os).forCall (fun _ _ => 0) ⟨#[], #[.int .u8 0, .int .u8 0, .int .u8 0], []⟩).memory Try.f6.params.toList Rows.spanBackSpec.vars false (#[.int .u8 0, .int .u8 0, .int .u8 0] : Array Value).toList 8 = some ([.lit (.int .u8 0), .lit (.int .u8 0), .lit (.int .u8 0)], [], places) :=
  ⟨[], by kernel_rfl⟩

set_option maxRecDepth 100000 in
theorem lifted (os : Os) (started : os.Started) (H : Type) (enc : TypeId × Value → H) (F : Stop.Interp) :
    ReturnsInHanded {} Try.checked os 6 .any ((OpenSpec.ofChange Rows.spanBackSpec).preRow enc Try.prog Try.f6 Rows.spanBackRow.domain false Rows.spanBackRow.laid) (((OpenSpec.ofChange Rows.spanBackSpec).at F).post enc Try.prog Try.f6 false true false false) := by
  obtain ⟨places, hx⟩ := reads os enc
  refine returnsInHanded_of_row (C := Try.checked) (s := OpenSpec.ofChange Rows.spanBackSpec) Base.own started (by kernel_rfl) Try.func6
    (witness_row_at (enc := enc) (C := Try.checked) false (Base.plainWorld os) #[.int .u8 0, .int .u8 0, .int .u8 0] rfl (by kernel_rfl) (by kernel_rfl) (by kernel_rfl)
      (OpenSpec.preRow_of_cond 8 hx (by kernel_rfl) (fun k hk => by cases hk) (by kernel_rfl) (laid_met os))) ?_
  intro W base args ds gs before hval hW _ _ hsz _ _ _
  exact contract H enc W base args ds gs before hval hW hsz

theorem said : Rows.SpanBackSaid :=
  OpenClaim.holds_of_cond 6 Try.f6 rfl rfl rfl rfl rfl rfl rfl ⟨rfl, rfl, rfl, rfl, rfl⟩ rfl rfl rfl rfl rfl (by kernel_rfl) Try.func6 (by kernel_rfl)
    (of_decide_eq_true (by kernel_rfl)) (by unfold Func.isWrapper; rw [if_neg (of_decide_eq_false (by kernel_rfl))]; exact ⟨rfl, rfl⟩)
    (fun os started H enc _ F => by rw [OpenClaim.pre_eq_preRow]; exact lifted os started H enc F)
#print axioms said
end Go.Proofs.Ytbchgnlfkcgklaa.SpanBack
