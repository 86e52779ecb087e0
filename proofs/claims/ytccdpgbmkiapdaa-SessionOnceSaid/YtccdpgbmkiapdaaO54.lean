/-
  P14.2: Whatever is lost, doubled, late, and whichever side begins anew, one incarnation takes a payload at most once, and only of what the other side sent.
  Conditions: none.
-/
import Derived.Test.YtccdpgbmkiapdaaO53
import Derived.Test.YtccdpgbmkiapdaaO28
import Derived.Test.YtccdpgbmkiapdaaO37
namespace Go.Proofs.Ytccdpgbmkiapdaa.SessionOnce
set_option maxRecDepth 100000
open Go.ChangeShapes Go.WideShapes Go.ChangeAt Go.RowKit Go.Deep Go.Proofs.Ytccdpgbmkiapdaa.Mem Go.Proofs.Ytccdpgbmkiapdaa.Win Go.Proofs.Ytccdpgbmkiapdaa.Ses
def acv (a : Ac) : List Value := [.int .i64 a.k, .int .i64 a.a, .int .i64 a.n]
section
variable {H : Type} {enc : TypeId × Value → H} {W : World}
theorem fields_act {fs : Array Field} {v : List Value} (hst : Try.prog.underlying 77 = some (.struct fs)) (h : Fields Try.prog enc W fs v) : ∃ o : Ac, v = acv o := by
 obtain ⟨f0, f1, f2, hs, e0, e1, e2⟩ : ∃ f0 f1 f2 : Field, Try.prog.underlying 77 = some (.struct #[f0, f1, f2]) ∧ f0.type = 3 ∧ f1.type = 3 ∧ f2.type = 3 :=
  ⟨_, _, _, Try.underlying77, rfl, rfl, rfl⟩
 rw [hs] at hst
 obtain rfl : #[f0, f1, f2] = fs := by simpa using hst
 obtain ⟨hlen, hf⟩ := h
 match v, hlen with
 | [c0, c1, c2], _ =>
  have g0 := hf 0 f0 c0 rfl rfl
  have g1 := hf 1 f1 c1 rfl rfl
  have g2 := hf 2 f2 c2 rfl rfl
  rw [e0] at g0
  rw [e1] at g1
  rw [e2] at g2
  obtain ⟨x0, rfl, _⟩ := g0.int Try.underlying3
  obtain ⟨x1, rfl, _⟩ := g1.int Try.underlying3
  obtain ⟨x2, rfl, _⟩ := g2.int Try.underlying3
  exact ⟨⟨x0, x1, x2⟩, rfl⟩
theorem cellsAct : Try.prog.cellsOf 77 = 3 := by kernel_rfl
theorem oneAct : ∃ fs : Array Field, Try.prog.underlying 77 = some (.struct fs) ∧ fs.size = 3 ∧ oneCellFields Try.prog fs = true := ⟨_, Try.underlying77, rfl, by kernel_rfl⟩
theorem came_acts {c : Value} (h : Came Try.prog enc W 73 c) : ∃ (A : Option Addr) (os : List Ac) (cap : Nat), c = .slice A os.length cap ∧ Sl W A 3 (os.map acv) ∧ os.length ≤ 140737488351232 := by
 obtain ⟨fs, hst, hsz, hone⟩ := oneAct
 obtain ⟨A, vs, cap, rfl, h1, h2, h3, h4⟩ := h.rows Try.underlying73 hst hone (by rw [hsz]; exact cellsAct) (by omega) (of_decide_eq_true (by kernel_rfl))
 have each : ∀ vs : List (List Value), (∀ v ∈ vs, Fields Try.prog enc W fs v) → ∃ l : List Ac, vs = l.map acv := by
  intro vs
  induction vs with
  | nil => intro _; exact ⟨[], rfl⟩
  | cons v vs ih =>
   intro hv
   obtain ⟨l, rfl⟩ := ih fun x hx => hv x (List.mem_cons_of_mem _ hx)
   obtain ⟨o, rfl⟩ := fields_act hst (hv v List.mem_cons_self)
   exact ⟨o :: l, rfl⟩
 obtain ⟨l, rfl⟩ := each vs h4
 rw [hsz] at h1
 rw [List.length_map] at h2 ⊢
 exact ⟨A, l, cap, rfl, h1, h2⟩
end
theorem PJ_start : PJ 0 0 meetS := ⟨PI.start, fun a ha => newS_pq ha (by decide) (by decide) 0, fun w hw => absurd hw List.not_mem_nil⟩
set_option maxHeartbeats 1000000 in
theorem walk (A : Option Addr) (os : List Ac) (c : Nat) (w : World) (hs : Sl w A 3 (os.map acv)) (hl : os.length ≤ 140737488351232) :
  Calls Try.prog 5 #[.slice A os.length c] w fun e w' => e = .returned (.bool true) ∧ Below w.heap.size w w' := by
 have HA := Lib.hid (awake_any w)
 have HS := Lib.hid hs
 obtain ⟨n, hn⟩ : ∃ q, os.length = q := ⟨_, rfl⟩
 rw [hn] at hl ⊢
 have HN := Lib.hid hn
 clear hs hn
 go_enter Try.func5, Try.ntmps5
 go_wp2_with fail
 refine HA.out.mono ?_
 rintro e w1 ⟨rfl, hb1⟩
 have HB1 := Lib.hid hb1
 have HM := Lib.hid (meet_pair w1)
 clear hb1 HA
 go_wp2_with fail
 refine HM.out.mono ?_
 rintro e w2 ⟨pb, s0, s1, mf, mt, F0, F1, rfl, q1, q2, q3, q4, q5, q6, q7, q8, q9, q10, q11, q12, q13, q14, q15⟩
 obtain ⟨B, hB⟩ : ∃ q, w1.heap.size = q := ⟨_, rfl⟩
 have hpa : PAtE w1.heap.size w2 pb meetS := ⟨_, _, _, _, _, _, _, _, _, PrAt.meet q2 q3 q4 q5 q6 q7 q8 q9 ⟨q10, q11, q12⟩ ⟨q1, q14, q15⟩⟩
 have HB2 := Lib.hid (HB1.out.trans (q13.mono HB1.out.size))
 have HBW : Hid (w.heap.size ≤ w1.heap.size) := Lib.hid HB1.out.size
 rw [hB] at hpa HBW
 have HPA := Lib.hid hpa
 clear hpa q1 q2 q3 q4 q5 q6 q7 q8 q9 q10 q11 q12 q13 q14 q15 hB HM HB1
 by_cases h200 : 200 < n
 ·have e1 : decide ((n : Int) > 200) = true := decide_eq_true (by omega)
  go_wp2_with fail
  go_returns
  exact ⟨rfl, HB2.out⟩
 have e1 : decide ((n : Int) > 200) = false := decide_eq_false (by omega)
 go_wp2_with fail
 go_loopw [20] (fun ix wr => ∃ (i : Nat) (P : Pr), ix = .int .i64 (i : Int) ∧ i ≤ n ∧ Hid (PJ i i P) ∧ Hid (PAtE B wr pb P) ∧ Hid (Below w.heap.size w wr)) (fun ix _ => n - (intOf ix).toNat)
 case atStart => exact ⟨0, meetS, rfl, Nat.zero_le _, Lib.hid PJ_start, HPA, HB2⟩
 case round =>
  obtain ⟨i, P, rfl, hi, HJ, HP, HB⟩ := hrel
  clear HPA HB2
  by_cases hlt : i < n
  ·have hio : i < os.length := by rw [HN.out]; exact hlt
   obtain ⟨g, off, rfl, hr⟩ := (HS.out.later HB.out) i (by rw [List.length_map]; exact hio)
   rw [List.getElem_map] at hr
   obtain ⟨o, hoo⟩ : ∃ o, os[i] = o := ⟨_, rfl⟩
   rw [hoo] at hr
   have z0 := hr 0 _ rfl
   rw [Nat.add_zero] at z0
   have z1 := hr 1 _ rfl
   have z2 := hr 2 _ rfl
   obtain ⟨w3, hw3⟩ : ∃ W, W = wr.alloc (.cells #[.int .i64 o.k, .int .i64 o.a, .int .i64 o.n] 77) := ⟨_, rfl⟩
   have hb3 : Below wr.heap.size wr w3 := by rw [hw3]; exact below_alloc _ _
   have hc3 : Cells w3 wr.heap.size 77 [.int .i64 o.k, .int .i64 o.a, .int .i64 o.n] := by rw [hw3]; exact cells_new _ _ _ _ rfl
   have y0 := hc3.cell (j := 0) rfl
   have y1 := hc3.cell (j := 1) rfl
   have y2 := hc3.cell (j := 2) rfl
   have hp3 : PAtE B w3 pb P := by
    obtain ⟨s0, s1, F0, F1, V, vc, mf, mt, m, h⟩ := HP.out
    exact ⟨s0, s1, F0, F1, V, vc, mf, mt, m, h.later hb3⟩
   have HDO := Lib.hid (do_any hp3 HJ.out (by omega) (by omega) o)
   have HJ2 := Lib.hid (HJ.out.act (by omega) o).2
   have HB3 := Lib.hid (HB.out.trans (hb3.mono HB.out.size))
   clear hr hoo hio hb3 hc3 hp3 HP HB
   go_upto_region 9 with (fail)
   rw [← hw3]
   clear hw3 z0 z1 z2
   go_wp2_with fail
   refine HDO.out.mono ?_
   rintro e w4 ⟨rfl, hp4, hb4⟩
   have HP4 := Lib.hid hp4
   have HB4 := Lib.hid (HB3.out.trans (hb4.mono HBW.out))
   clear hp4 hb4 HDO HB3
   go_wp2_with fail
   go_roundw
   case rel => exact ⟨i + 1, (doM P o).2, by go_num, by omega, HJ2, HP4, HB4⟩
   case measure => simp [intOf]; omega
  ·go_wp2_with fail
   go_returns
   exact ⟨rfl, HB.out⟩
theorem opened {H : Type} {enc : TypeId × Value → H} {W : World} {base : Nat} {gs : List (DataW H)} (v0 : Value) (d0 : DataW H) (p0 : List MemPlace)
  (o0 : Value.okWide Try.prog W .any base 73 v0) (t0 : DataW.Trod enc Try.prog W 0 (fun _ => true) true 73 v0 d0 p0)
  (hsz : (DataW.weightsEach Try.prog ([73] ++ []) ([d0] ++ gs)).all (· ≤ reachBytes) = true) :
  Calls Try.prog 5 #[v0] W fun e W' => e = .returned (.bool true) ∧ Below W.heap.size W W' := by
 obtain ⟨a0, len, c0, rfl⟩ := okWide_slice Try.underlying73 o0
 obtain ⟨A, os, cap', e, h1, h2⟩ := came_acts (came_of t0 (Base.small_of hsz (j := 0) rfl rfl) (by simp [Value.cells]))
 rw [e]
 exact walk A os cap' W h1 h2
theorem contract (H : Type) (enc : TypeId × Value → H) (W : World) (base : Nat) (args : Array Value) (ds gs : List (DataW H)) (before : List MemPlace)
  (hval : ∀ (j : Nat) t v, Try.f5.params[j]? = some t → args[j]? = some v → Value.okWide Try.prog W .any base t v)
  (hW : DataW.Whole enc Try.prog Try.f5.params.toList Rows.sessionOnceSpec.vars false W args.toList ds gs before)
  (hsz : (DataW.weightsEach Try.prog (Try.f5.params.toList ++ []) (ds ++ gs)).all (· ≤ reachBytes) = true) :
  Calls Try.prog 5 args W fun e W' => ∃ v, e = .returned v ∧ Rows.sessionOnceSpec.post enc Try.prog Try.f5 false true false false W args v W' := by
 have hW0 := hW
 obtain ⟨p, q, hA0, hV, rfl, _, _⟩ := hW
 have hA : DataW.TrodAll enc Try.prog W 0 (fun _ => true) true Try.f5.params.toList args.toList ds p := hA0
 rw [Try.params5] at hA hval hsz
 obtain ⟨v0, vs0, d0, ds0, p0, q0, hargs, rfl, rfl, h0, r0⟩ := trodAll_cons hA
 obtain ⟨rfl, rfl, rfl⟩ := trodAll_nil r0
 obtain rfl : args = #[v0] := by cases args; simp_all
 refine (opened v0 d0 p0 (hval 0 73 v0 rfl rfl) h0 hsz).mono fun e W' ⟨he, hb⟩ => ⟨_, he, ?_⟩
 exact Base.law_post (tb := 4) Base.laidOut (by kernel_rfl) rfl Try.underlying4 rfl (fun l hl => by
  rw [Try.params5] at hl
  match l, hl with
  | [_], _ => rfl) (by rw [Try.params5]; rfl) hW0 hb
theorem laid_met (os : Os) : laidMet Try.prog Rows.sessionOnceRow.laid ((Base.plainWorld os).forCall (fun _ _ => 0) ⟨#[], #[.slice none 0 0], []⟩).memory := laidMet_nil _ _
theorem reads (os : Os) {H : Type} (enc : TypeId × Value → H) : ∃ places, DataW.whole enc Try.prog ((Base.plainWorld os).forCall (fun _ _ => 0) ⟨#[], #[.slice none 0 0], []⟩).memory Try.f5.params.toList Rows.sessionOnceSpec.vars false (#[.slice none 0 0] : Array Value).toList 8 = some ([.nil], [], places) :=
 ⟨[], by kernel_rfl⟩
set_option maxRecDepth 100000 in
theorem lifted (os : Os) (started : os.Started) (H : Type) (enc : TypeId × Value → H) (F : Stop.Interp) :
  ReturnsInHanded {} Try.checked os 5 .any ((OpenSpec.ofChange Rows.sessionOnceSpec).preRow enc Try.prog Try.f5 Rows.sessionOnceRow.domain false Rows.sessionOnceRow.laid) (((OpenSpec.ofChange Rows.sessionOnceSpec).at F).post enc Try.prog Try.f5 false true false false) := by
 obtain ⟨places, hx⟩ := reads os enc
 refine returnsInHanded_of_row (C := Try.checked) (s := OpenSpec.ofChange Rows.sessionOnceSpec) Base.own started (by kernel_rfl) Try.func5
  (witness_row_at (enc := enc) (C := Try.checked) false (Base.plainWorld os) #[.slice none 0 0] rfl (by kernel_rfl) (by kernel_rfl) (by kernel_rfl)
   (OpenSpec.preRow_of_cond 8 hx (by kernel_rfl) (fun k hk => by cases hk) (by kernel_rfl) (laid_met os))) ?_
 intro W base args ds gs before hval hW _ _ hsz _ _ _
 exact contract H enc W base args ds gs before hval hW hsz
theorem said : Rows.SessionOnceSaid :=
 OpenClaim.holds_of_cond 5 Try.f5 rfl rfl rfl rfl rfl rfl rfl ⟨rfl, rfl, rfl, rfl, rfl⟩ rfl rfl rfl rfl rfl (by kernel_rfl) Try.func5 (by kernel_rfl)
  (of_decide_eq_true (by kernel_rfl)) (by unfold Func.isWrapper; rw [if_neg (of_decide_eq_false (by kernel_rfl))]; exact ⟨rfl, rfl⟩)
  (fun os started H enc _ F => by rw [OpenClaim.pre_eq_preRow]; exact lifted os started H enc F)
#print axioms said
end Go.Proofs.Ytccdpgbmkiapdaa.SessionOnce
