/-
  P15.1: The path between any two nodes, and the next one on it, is what the document says. Conditions: none.
-/
import Derived.Test.YtbchgnlfkcgklaaSpnLaw
namespace Go.Proofs.Ytbchgnlfkcgklaa.SpanPaths
set_option maxRecDepth 100000
open Go.ChangeShapes Go.WideShapes Go.ChangeAt Go.RowKit Go.Deep Go.Proofs.Ytbchgnlfkcgklaa.Mem Go.Proofs.Ytbchgnlfkcgklaa.Spn

theorem map_inj (l : List Nat) : decide (l.map (fun n : Nat => (n : Int)) = l.map (fun n : Nat => (n : Int))) = true := decide_eq_true rfl
theorem walk (f t m : Int) (w : World) : Calls Try.prog 4 #[.int .i64 f, .int .i64 t, .int .i64 m] w fun e w' => e = .returned (.bool true) ∧ Below w.heap.size w w' := by
  have HA := Lib.hid (awake_any w)
  obtain ⟨L, hL⟩ : ∃ L, pathI f t m = L := ⟨_, rfl⟩
  obtain ⟨nx, hnx⟩ : ∃ n, towI f (pathI f t m) = n := ⟨_, rfl⟩
  have HRP : Hid (∀ wq, Calls Try.prog 16 #[.int .i64 f, .int .i64 t, .int .i64 m] wq fun e w' => ∃ v, e = .returned v ∧ NR wq.heap.size w' v L ∧ Below wq.heap.size wq w') := Lib.hid fun wq => by rw [← hL]; exact RPath_any f t m wq
  have HCP : Hid (∀ wq, Calls Try.prog 17 #[.int .i64 f, .int .i64 t, .int .i64 m] wq fun e w' => ∃ v, e = .returned v ∧ NR wq.heap.size w' v L ∧ Below wq.heap.size wq w') := Lib.hid fun wq => by rw [← hL]; exact Path_any f t m wq
  have HTW : Hid (∀ wq, Calls Try.prog 18 #[.int .i64 f, .int .i64 t, .int .i64 m] wq fun e w' => e = .returned (.int .i64 nx) ∧ Below wq.heap.size wq w') := Lib.hid fun wq => by rw [← hnx]; exact Toward_any f t m wq
  have HLL : Hid (L.length ≤ 1000) := Lib.hid (by
    rw [← hL]
    unfold pathI
    split
    · have := goP_len 40 f.toNat t.toNat [] []
      unfold pathL
      simp only [List.length_append, List.length_cons, List.length_reverse, List.length_nil] at this ⊢
      omega
    · simp)
  rw [hL] at hnx
  clear hL
  match L, hnx, HRP, HCP, HLL with
  | [], hnx, HRP, HCP, _ =>
    obtain rfl : nx = 0 := hnx.symm
    go_enter Try.func4, Try.ntmps4
    go_wp2_with fail
    refine HA.out.mono ?_
    rintro e w1 ⟨rfl, hb1⟩
    have HB1 := Lib.hid hb1
    clear hb1 HA hnx
    go_wp2_with fail
    refine (HRP.out w1).mono ?_
    rintro e w2 ⟨v, rfl, hrow, hb2⟩
    obtain ⟨A, c, rfl, hir, _, _⟩ := hrow.islice
    have HIR := Lib.hid hir
    have HB2 := Lib.hid (HB1.out.trans (hb2.mono HB1.out.size))
    clear hrow hb2 hir HRP
    go_wp2_with fail
    refine (HCP.out w2).mono ?_
    rintro e w3 ⟨v, rfl, hrow, hb3⟩
    obtain ⟨A3, c3, rfl, hir3, _, _⟩ := hrow.islice
    have HS := Lib.hid (Same_any A3 A [] [] c3 c w3 hir3 (HIR.out.later hb3) (by simp))
    have HB3 := Lib.hid (HB2.out.trans (hb3.mono HB2.out.size))
    clear hrow hb3 hir3 HCP
    go_wp2_with fail
    refine HS.out.mono ?_
    rintro e w4 ⟨rfl, hb4⟩
    have HB4 := Lib.hid (HB3.out.trans (hb4.mono HB3.out.size))
    clear hb4 HS
    go_wp2_with fail
    refine (HTW.out w4).mono ?_
    rintro e w5 ⟨rfl, hb5⟩
    have HB5 := Lib.hid (HB4.out.trans (hb5.mono HB4.out.size))
    clear hb5 HTW
    go_wp2_with fail
    go_returns
    exact ⟨rfl, HB5.out⟩
  | [x], hnx, HRP, HCP, _ =>
    obtain rfl : nx = f := hnx.symm
    go_enter Try.func4, Try.ntmps4
    go_wp2_with fail
    refine HA.out.mono ?_
    rintro e w1 ⟨rfl, hb1⟩
    have HB1 := Lib.hid hb1
    clear hb1 HA hnx
    go_wp2_with fail
    refine (HRP.out w1).mono ?_
    rintro e w2 ⟨v, rfl, hrow, hb2⟩
    obtain ⟨A, c, rfl, hir, _, _⟩ := hrow.islice
    have HIR := Lib.hid hir
    have HB2 := Lib.hid (HB1.out.trans (hb2.mono HB1.out.size))
    clear hrow hb2 hir HRP
    go_wp2_with fail
    refine (HCP.out w2).mono ?_
    rintro e w3 ⟨v, rfl, hrow, hb3⟩
    obtain ⟨A3, c3, rfl, hir3, _, _⟩ := hrow.islice
    have hs := Same_any A3 A [(x : Int)] [(x : Int)] c3 c w3 hir3 (HIR.out.later hb3) (by simp)
    rw [decide_eq_true rfl] at hs
    have HS := Lib.hid hs
    have HB3 := Lib.hid (HB2.out.trans (hb3.mono HB2.out.size))
    clear hrow hb3 hir3 HCP hs
    go_wp2_with fail
    refine HS.out.mono ?_
    rintro e w4 ⟨rfl, hb4⟩
    have HB4 := Lib.hid (HB3.out.trans (hb4.mono HB3.out.size))
    clear hb4 HS
    go_wp2_with fail
    refine (HTW.out w4).mono ?_
    rintro e w5 ⟨rfl, hb5⟩
    have HB5 := Lib.hid (HB4.out.trans (hb5.mono HB4.out.size))
    clear hb5 HTW
    go_wp2_with fail
    go_returns
    exact ⟨rfl, HB5.out⟩
  | x :: y :: r, hnx, HRP, HCP, HLL =>
    obtain rfl : nx = (y : Int) := hnx.symm
    obtain ⟨L, hL⟩ : ∃ L, x :: y :: r = L := ⟨_, rfl⟩
    obtain ⟨n, hn⟩ : ∃ n, L.length = n := ⟨_, rfl⟩
    have hn2 : 2 ≤ n := by rw [← hn, ← hL]; simp
    have hy : L[1]? = some y := by rw [← hL]; rfl
    rw [hL] at HRP HCP HLL
    have HN := Lib.hid hn
    have HY := Lib.hid hy
    have e1 : ((n : Int) == 1) = false := by simp; omega
    have e2 : decide ((n : Int) > 1) = true := decide_eq_true (by omega)
    clear hnx hL hn hy
    go_enter Try.func4, Try.ntmps4
    go_wp2_with fail
    refine HA.out.mono ?_
    rintro e w1 ⟨rfl, hb1⟩
    have HB1 := Lib.hid hb1
    clear hb1 HA
    go_wp2_with fail
    refine (HRP.out w1).mono ?_
    rintro e w2 ⟨v, rfl, hrow, hb2⟩
    obtain ⟨A, c, rfl, hir, _, _⟩ := hrow.islice
    have HIR := Lib.hid hir
    have HB2 := Lib.hid (HB1.out.trans (hb2.mono HB1.out.size))
    obtain ⟨g, off, rfl, hc⟩ := hir 1 (by rw [List.length_map, HN.out]; omega)
    rw [List.getElem_map, (List.getElem?_eq_some_iff.1 HY.out).2] at hc
    rw [HN.out]
    clear hrow hb2 hir HRP
    go_wp2_with fail
    refine (HCP.out w2).mono ?_
    rintro e w3 ⟨v, rfl, hrow, hb3⟩
    obtain ⟨A3, c3, rfl, hir3, _, _⟩ := hrow.islice
    have hs := Same_any A3 (some ⟨g, off, none⟩) (L.map fun n : Nat => (n : Int)) (L.map fun n : Nat => (n : Int)) c3 c w3 hir3 (HIR.out.later hb3) (by rw [List.length_map]; exact HLL.out)
    rw [decide_eq_true rfl, List.length_map, HN.out] at hs
    have HS := Lib.hid hs
    have HB3 := Lib.hid (HB2.out.trans (hb3.mono HB2.out.size))
    rw [HN.out]
    clear hrow hb3 hir3 HCP hs
    go_wp2_with fail
    refine HS.out.mono ?_
    rintro e w4 ⟨rfl, hb4⟩
    have HB4 := Lib.hid (HB3.out.trans (hb4.mono HB3.out.size))
    clear hb4 HS
    go_wp2_with fail
    refine (HTW.out w4).mono ?_
    rintro e w5 ⟨rfl, hb5⟩
    have HB5 := Lib.hid (HB4.out.trans (hb5.mono HB4.out.size))
    clear hb5 HTW
    go_wp2_with fail
    go_returns
    exact ⟨rfl, HB5.out⟩
theorem opened {H : Type} {enc : TypeId × Value → H} {W : World} {base : Nat} {gs : List (DataW H)} (v0 : Value) (d0 : DataW H) (p0 : List MemPlace) (v1 : Value) (d1 : DataW H) (p1 : List MemPlace) (v2 : Value) (d2 : DataW H) (p2 : List MemPlace)
    (o0 : Value.okWide Try.prog W .any base 3 v0) (_t0 : DataW.Trod enc Try.prog W 0 (fun _ => true) true 3 v0 d0 p0)
    (o1 : Value.okWide Try.prog W .any base 3 v1) (_t1 : DataW.Trod enc Try.prog W 0 (fun _ => true) true 3 v1 d1 p1)
    (o2 : Value.okWide Try.prog W .any base 3 v2) (_t2 : DataW.Trod enc Try.prog W 0 (fun _ => true) true 3 v2 d2 p2)
    (_hsz : (DataW.weightsEach Try.prog ([3, 3, 3] ++ []) ([d0, d1, d2] ++ gs)).all (· ≤ reachBytes) = true) :
    Calls Try.prog 4 #[v0, v1, v2] W fun e W' => e = .returned (.bool true) ∧ Below W.heap.size W W' := by
  obtain ⟨x, rfl⟩ := okWide_int Try.underlying3 o0
  obtain ⟨y, rfl⟩ := okWide_int Try.underlying3 o1
  obtain ⟨z, rfl⟩ := okWide_int Try.underlying3 o2
  exact walk x y z W

theorem contract (H : Type) (enc : TypeId × Value → H) (W : World) (base : Nat) (args : Array Value) (ds gs : List (DataW H)) (before : List MemPlace)
    (hval : ∀ (j : Nat) t v, Try.f4.params[j]? = some t → args[j]? = some v → Value.okWide Try.prog W .any base t v)
    (hW : DataW.Whole enc Try.prog Try.f4.params.toList Rows.spanPathsSpec.vars false W args.toList ds gs before)
    (hsz : (DataW.weightsEach Try.prog (Try.f4.params.toList ++ []) (ds ++ gs)).all (· ≤ reachBytes) = true) :
    Calls Try.prog 4 args W fun e W' => ∃ v, e = .returned v ∧ Rows.spanPathsSpec.post enc Try.prog Try.f4 false true false false W args v W' := by
  have hW0 := hW
  obtain ⟨p, q, hA0, hV, rfl, _, _⟩ := hW
  have hA : DataW.TrodAll enc Try.prog W 0 (fun _ => true) true Try.f4.params.toList args.toList ds p := hA0
  rw [Try.params4] at hA hval hsz
  obtain ⟨v0, vs0, d0, ds0, p0, q0, hargs, rfl, rfl, h0, r0⟩ := trodAll_cons hA
  obtain ⟨v1, vs1, d1, ds1, p1, q1, rfl, rfl, rfl, h1, r1⟩ := trodAll_cons r0
  obtain ⟨v2, vs2, d2, ds2, p2, q2, rfl, rfl, rfl, h2, r2⟩ := trodAll_cons r1
  obtain ⟨rfl, rfl, rfl⟩ := trodAll_nil r2
  obtain rfl : args = #[v0, v1, v2] := by cases args; simp_all
  refine (opened v0 d0 p0 v1 d1 p1 v2 d2 p2 (hval 0 3 v0 rfl rfl) h0 (hval 1 3 v1 rfl rfl) h1 (hval 2 3 v2 rfl rfl) h2 hsz).mono fun e W' ⟨he, hb⟩ => ⟨_, he, ?_⟩
  exact Base.law_post (tb := 4) Base.laidOut (by kernel_rfl) rfl Try.underlying4 rfl (fun l hl => by
    rw [Try.params4] at hl
    match l, hl with
    | [_, _, _], _ => rfl) (by rw [Try.params4]; rfl) hW0 hb

theorem laid_met (os : Os) : laidMet Try.prog Rows.spanPathsRow.laid ((Base.plainWorld os).forCall (fun _ _ => 0) ⟨#[], #[.int .i64 0, .int .i64 0, .int .i64 0], []⟩).memory := laidMet_nil _ _
theorem reads (os : Os) {H : Type} (enc : TypeId × Value → H) : ∃ places, DataW.whole enc Try.prog ((Base.plainWorld os).forCall (fun _ _ => 0) ⟨#[], #[.int .i64 0, .int .i64 0, .int .i64 0], []⟩).memory Try.f4.params.toList Rows.spanPathsSpec.vars false (#[.int .i64 0, .int .i64 0, .int .i64 0] : Array Value).toList 8 = some ([.lit (.int .i64 0), .lit (.int .i64 0), .lit (.int .i64 0)], [], places) :=
  ⟨[], by kernel_rfl⟩

set_option maxRecDepth 100000 in
theorem lifted (os : Os) (started : os.Started) (H : Type) (enc : TypeId × Value → H) (F : Stop.Interp) :
    ReturnsInHanded {} Try.checked os 4 .any ((OpenSpec.ofChange Rows.spanPathsSpec).preRow enc Try.prog Try.f4 Rows.spanPathsRow.domain false Rows.spanPathsRow.laid) (((OpenSpec.ofChange Rows.spanPathsSpec).at F).post enc Try.prog Try.f4 false true false false) := by
  obtain ⟨places, hx⟩ := reads os enc
  refine returnsInHanded_of_row (C := Try.checked) (s := OpenSpec.ofChange Rows.spanPathsSpec) Base.own started (by kernel_rfl) Try.func4
    (witness_row_at (enc := enc) (C := Try.checked) false (Base.plainWorld os) #[.int .i64 0, .int .i64 0, .int .i64 0] rfl (by kernel_rfl) (by kernel_rfl) (by kernel_rfl)
      (OpenSpec.preRow_of_cond 8 hx (by kernel_rfl) (fun k hk => by cases hk) (by kernel_rfl) (laid_met os))) ?_
  intro W base args ds gs before hval hW _ _ hsz _ _ _
  exact contract H enc W base args ds gs before hval hW hsz

theorem said : Rows.SpanPathsSaid :=
  OpenClaim.holds_of_cond 4 Try.f4 rfl rfl rfl rfl rfl rfl rfl ⟨rfl, rfl, rfl, rfl, rfl⟩ rfl rfl rfl rfl rfl (by kernel_rfl) Try.func4 (by kernel_rfl)
    (of_decide_eq_true (by kernel_rfl)) (by unfold Func.isWrapper; rw [if_neg (of_decide_eq_false (by kernel_rfl))]; exact ⟨rfl, rfl⟩)
    (fun os started H enc _ F => by rw [OpenClaim.pre_eq_preRow]; exact lifted os started H enc F)
#print axioms said
end Go.Proofs.Ytbchgnlfkcgklaa.SpanPaths
