/-
  WireJoins is proved: what is put into one writer, and then into another one, is together what is put into one. Conditions: none.
-/
import Derived.Test.YtbjjkbaigpophaaWireMany
namespace Go.Proofs.Ytbjjkbaigpophaa.WireJoins
open Go.ChangeShapes Go.WideShapes Go.ChangeAt Go.RowKit Go.Proofs.Ytbjjkbaigpophaa.Mem Go.Proofs.Ytbjjkbaigpophaa.Wire

set_option maxHeartbeats 1000000 in
theorem walk_long (A B : Option Addr) (ss ts : List Th) (c d : Nat) (w : World) (hs : Things w A ss) (ht : Things w B ts) (hm : ss.length ≤ maxLen) (hm2 : ts.length ≤ maxLen)
    (h : (100 < ss.length ∨ 200000 < (ss.map (·.s.size)).sum) ∨ (100 < ts.length ∨ 200000 < (ts.map (·.s.size)).sum)) :
    Calls Try.prog 7 #[.slice A ss.length c, .slice B ts.length d] w fun e w' => e = .returned (.bool true) ∧ Below w.heap.size w w' := by
  by_cases h1 : 100 < ss.length ∨ 200000 < (ss.map (·.s.size)).sum
  · have H1 := Lib.hid h1
    clear h h1
    go_enter Try.func7, Try.ntmps7
    go_wp2_with fail
    refine (awake_any w).mono ?_
    rintro e w1 ⟨rfl, hb⟩
    go_wp2_with fail
    refine (long_yes A ss c w1 (hs.later hb) hm H1.out).mono ?_
    rintro e w2 ⟨rfl, hb2⟩
    have hb3 := hb.trans (hb2.mono hb.size)
    go_wp2_with fail
    go_returns
    exact ⟨rfl, hb3⟩
  · have H2 := Lib.hid (h.resolve_left h1)
    have h3 : ss.length ≤ 100 := by omega
    have H4 := Lib.hid (show (ss.map (·.s.size)).sum ≤ 200000 by omega)
    clear h h1
    go_enter Try.func7, Try.ntmps7
    go_wp2_with fail
    refine (awake_any w).mono ?_
    rintro e w1 ⟨rfl, hb⟩
    go_wp2_with fail
    refine (long_no A ss c w1 (hs.later hb) H4.out h3).mono ?_
    rintro e w2 ⟨rfl, hb2⟩
    have hb3 := hb.trans (hb2.mono hb.size)
    go_wp2_with fail
    refine (long_yes B ts d w2 (ht.later hb3) hm2 H2.out).mono ?_
    rintro e w3 ⟨rfl, hb4⟩
    have hb5 := hb3.trans (hb4.mono hb3.size)
    go_wp2_with fail
    go_returns
    exact ⟨rfl, hb5⟩

/-- What two writers hold, and what one does. -/
theorem puts_join (ss ts : List Th) : puts (puts (some []) ss) ts = match puts (some []) ss, puts (some []) ts with | some a, some b => some (a ++ b) | _, _ => none := by
  cases puts (some []) ss with
  | none => rw [puts_none]
  | some a =>
    have h := puts_onto a ts []
    rw [List.append_nil] at h
    rw [h]
    cases puts (some []) ts <;> rfl

set_option maxHeartbeats 4000000 in
theorem walk (A B : Option Addr) (ss ts : List Th) (c d : Nat) (w : World) (hs : Things w A ss) (ht : Things w B ts) (hn : ss.length ≤ 100) (hn2 : ts.length ≤ 100) (hl : (ss.map (·.s.size)).sum ≤ 200000) (hl2 : (ts.map (·.s.size)).sum ≤ 200000) :
    Calls Try.prog 7 #[.slice A ss.length c, .slice B ts.length d] w fun e w' => e = .returned (.bool true) ∧ Below w.heap.size w w' := by
  have HS := Lib.hid hs
  have HT := Lib.hid ht
  have HL := Lib.hid hl
  have HL2 := Lib.hid hl2
  clear hs ht hl hl2
  go_enter Try.func7, Try.ntmps7
  go_wp2_with fail
  refine (awake_any w).mono ?_
  rintro e w1 ⟨rfl, hb⟩
  go_wp2_with fail
  refine (long_no A ss c w1 (HS.out.later hb) HL.out hn).mono ?_
  rintro e w2 ⟨rfl, hb2⟩
  have hb3 := hb.trans (hb2.mono hb.size)
  clear hb hb2
  go_wp2_with fail
  refine (long_no B ts d w2 (HT.out.later hb3) HL2.out hn2).mono ?_
  rintro e w3 ⟨rfl, hb4⟩
  have hb5 := hb3.trans (hb4.mono hb3.size)
  clear hb3 hb4
  have H3 := Lib.hid (three_new w3 w.heap.size hb5.size)
  have HB := Lib.hid (hb5.trans ((three_below w3).mono hb5.size))
  have HG := Lib.hid hb5.size
  clear hb5
  go_wp2_with fail
  generalize w3.heap.size = n at *
  have HN : Hid (n = n) := Lib.hid rfl
  go_loopw [22] (fun i wr => ∃ k r1 r2 r3, k ≤ ss.length ∧ i = .int .i64 (k : Int) ∧ Three wr w.heap.size n (n + 1) (n + 2) r1 r2 r3 (puts (some []) (ss.take k)) (some []) (puts (some []) (ss.take k)) ∧ Below w.heap.size w wr) (fun i _ => ss.length - (intOf i).toNat)
  case atStart => exact ⟨0, none, none, none, Nat.zero_le _, rfl, H3.out, HB.out⟩
  case round =>
    obtain ⟨k, r1, r2, r3, hk, rfl, h3, hb⟩ := hrel
    have H3 := Lib.hid h3
    have HB := Lib.hid hb
    clear h3 hb
    by_cases hlt : k < ss.length
    · obtain ⟨b, off, rfl, c0, c1, c2⟩ := things_cells HS.out hlt HB.out
      have HP := Lib.hid (puts_take (some []) ss k hlt)
      have HZ := Lib.hid (show ss[k].s.size ≤ 1000000000 by have := size_le_sum ss k hlt; have := HL.out; omega)
      have HQ := Lib.hid (puts_small ss (some []) k (by simp) hn)
      generalize ss[k] = t at *
      obtain ⟨tk, tn, s⟩ := t
      simp only at c0 c1 c2
      have hbox : Below wr.heap.size wr (wr.alloc (.cells #[.int .i64 tk, .int .i64 tn, .string s] 29)) := below_alloc _ _
      have hc := cells_new wr 29 [.int .i64 tk, .int .i64 tn, .string s] #[.int .i64 tk, .int .i64 tn, .string s] rfl
      have HBX := Lib.hid (HB.out.trans (hbox.mono HB.out.size))
      have HC := Lib.hid hc
      have H4 := Lib.hid (H3.out.later hbox)
      clear hbox hc
      go_wp2_with fail
      refine (law_put _ w.heap.size n r1 _ ⟨tk, tn, s⟩ H4.out.one HQ.out HZ.out).mono ?_
      rintro e w4 ⟨rfl, q1, hw1, ht1⟩
      have hlt3 := H3.out.three.lt
      have hlt1 := H3.out.one.lt
      have hc4 := ht1.cells (b := wr.heap.size) (by omega) (fun e => by have := hlt1.2 _ e; omega) HC.out
      have H5 := Lib.hid (H4.out.first hw1 ht1)
      have HB5 := Lib.hid (HBX.out.trans (ht1.below H4.out.one (H4.out.one.base)))
      have d0 := hc4.cell (j := 0) rfl
      have d1 := hc4.cell (j := 1) rfl
      have d2 := hc4.cell (j := 2) rfl
      clear hc4 ht1 hw1 c0 c1 c2
      go_wp2_with fail
      refine (law_put _ w.heap.size (n + 2) r3 _ ⟨tk, tn, s⟩ H5.out.three HQ.out HZ.out).mono ?_
      rintro e w5 ⟨rfl, q3, hw3, ht3⟩
      have H6 := Lib.hid (H5.out.third hw3 ht3)
      have HB6 := Lib.hid (HB5.out.trans (ht3.below H5.out.three (H5.out.three.base)))
      clear ht3 hw3 d0 d1 d2
      go_wp2_with fail
      go_roundw
      case rel => exact ⟨k + 1, q1, r2, q3, by omega, by go_num, by rw [HP.out]; exact H6.out, HB6.out⟩
      case measure => simp [intOf]; omega
    · have he : ss.take k = ss := List.take_of_length_le (by omega)
      rw [he] at H3
      clear he
      have HV := Lib.hid (show ((puts (some []) ss).getD []).length ≤ 100000000 by have h := puts_length ss (some []); simp only [Option.getD_some, List.length_nil] at h; omega)
      have HX := Lib.hid (puts_join ss ts)
      generalize puts (some []) ss = sv at *
      go_wp2_with fail
      go_loopw [33] (fun i wr => ∃ k r1 r2 r3, k ≤ ts.length ∧ i = .int .i64 (k : Int) ∧ Three wr w.heap.size n (n + 1) (n + 2) r1 r2 r3 sv (puts (some []) (ts.take k)) (puts sv (ts.take k)) ∧ Below w.heap.size w wr) (fun i _ => ts.length - (intOf i).toNat)
      case atStart => exact ⟨0, r1, r2, r3, Nat.zero_le _, rfl, H3.out, HB.out⟩
      case round =>
        obtain ⟨k, r1, r2, r3, hk, rfl, h3, hb⟩ := hrel
        clear H3 HB
        have H3 := Lib.hid h3
        have HB := Lib.hid hb
        clear h3 hb
        by_cases hlt : k < ts.length
        · obtain ⟨b, off, rfl, c0, c1, c2⟩ := things_cells HT.out hlt HB.out
          have HP := Lib.hid (puts_take (some []) ts k hlt)
          have HP2 := Lib.hid (puts_take sv ts k hlt)
          have HZ := Lib.hid (show ts[k].s.size ≤ 1000000000 by have := size_le_sum ts k hlt; have := HL2.out; omega)
          have HQ := Lib.hid (puts_small ts (some []) k (by simp) hn2)
          have HQ2 := Lib.hid (puts_small ts sv k HV.out hn2)
          generalize ts[k] = t at *
          obtain ⟨tk, tn, s⟩ := t
          simp only at c0 c1 c2
          have hbox : Below wr.heap.size wr (wr.alloc (.cells #[.int .i64 tk, .int .i64 tn, .string s] 29)) := below_alloc _ _
          have hc := cells_new wr 29 [.int .i64 tk, .int .i64 tn, .string s] #[.int .i64 tk, .int .i64 tn, .string s] rfl
          have HBX := Lib.hid (HB.out.trans (hbox.mono HB.out.size))
          have HC := Lib.hid hc
          have H4 := Lib.hid (H3.out.later hbox)
          clear hbox hc
          go_wp2_with fail
          refine (law_put _ w.heap.size (n + 1) r2 _ ⟨tk, tn, s⟩ H4.out.two HQ.out HZ.out).mono ?_
          rintro e w4 ⟨rfl, q1, hw1, ht1⟩
          have hlt3 := H3.out.three.lt
          have hlt1 := H3.out.two.lt
          have hc4 := ht1.cells (b := wr.heap.size) (by omega) (fun e => by have := hlt1.2 _ e; omega) HC.out
          have H5 := Lib.hid (H4.out.second hw1 ht1)
          have HB5 := Lib.hid (HBX.out.trans (ht1.below H4.out.two (H4.out.two.base)))
          have d0 := hc4.cell (j := 0) rfl
          have d1 := hc4.cell (j := 1) rfl
          have d2 := hc4.cell (j := 2) rfl
          clear hc4 ht1 hw1 c0 c1 c2
          go_wp2_with fail
          refine (law_put _ w.heap.size (n + 2) r3 _ ⟨tk, tn, s⟩ H5.out.three HQ2.out HZ.out).mono ?_
          rintro e w5 ⟨rfl, q3, hw3, ht3⟩
          have H6 := Lib.hid (H5.out.third hw3 ht3)
          have HB6 := Lib.hid (HB5.out.trans (ht3.below H5.out.three (H5.out.three.base)))
          clear ht3 hw3 d0 d1 d2
          go_wp2_with fail
          go_roundw
          case rel => exact ⟨k + 1, r1, q1, q3, by omega, by go_num, by rw [HP.out, HP2.out]; exact H6.out, HB6.out⟩
          case measure => simp [intOf]; omega
        · have he : ts.take k = ts := List.take_of_length_le (by omega)
          rw [he] at H3
          clear he
          generalize puts sv ts = sx at *
          have HW := Lib.hid (show ((puts (some []) ts).getD []).length ≤ 100000000 by have h := puts_length ts (some []); simp only [Option.getD_some, List.length_nil] at h; omega)
          generalize puts (some []) ts = sw at *
          have hx := HX.out
          cases sv with
          | none =>
            obtain rfl : sx = none := hx
            go_wp2_with fail
            refine (bad_any _ _ _ _ _ H3.out.one).mono ?_
            rintro e w5 ⟨rfl, rfl⟩
            go_wp2_with fail
            refine (bad_any _ _ _ _ _ H3.out.three).mono ?_
            rintro e w5 ⟨rfl, rfl⟩
            go_wp2_with fail
            refine (string_any _ _ _ _ _ H3.out.three).mono ?_
            rintro e w5 ⟨rfl, rfl⟩
            go_wp2_with fail
            go_returns
            exact ⟨rfl, HB.out⟩
          | some lv =>
            cases sw with
            | none =>
              obtain rfl : sx = none := hx
              go_wp2_with fail
              refine (bad_any _ _ _ _ _ H3.out.one).mono ?_
              rintro e w5 ⟨rfl, rfl⟩
              go_wp2_with fail
              refine (bad_any _ _ _ _ _ H3.out.two).mono ?_
              rintro e w5 ⟨rfl, rfl⟩
              go_wp2_with fail
              refine (bad_any _ _ _ _ _ H3.out.three).mono ?_
              rintro e w5 ⟨rfl, rfl⟩
              go_wp2_with fail
              refine (string_any _ _ _ _ _ H3.out.three).mono ?_
              rintro e w5 ⟨rfl, rfl⟩
              go_wp2_with fail
              go_returns
              exact ⟨rfl, HB.out⟩
            | some lw =>
              obtain rfl : sx = some (lv ++ lw) := hx
              have hap := bytes_app lv ⟨lw.toArray⟩
              have hv : lv.length ≤ 100000000 := HV.out
              have hw : lw.length ≤ 100000000 := HW.out
              go_wp2_with fail
              refine (bad_any _ _ _ _ _ H3.out.one).mono ?_
              rintro e w5 ⟨rfl, rfl⟩
              go_wp2_with fail
              refine (bad_any _ _ _ _ _ H3.out.two).mono ?_
              rintro e w5 ⟨rfl, rfl⟩
              go_wp2_with fail
              refine (bad_any _ _ _ _ _ H3.out.three).mono ?_
              rintro e w5 ⟨rfl, rfl⟩
              go_wp2_with fail
              refine (string_any _ _ _ _ _ H3.out.three).mono ?_
              rintro e w5 ⟨rfl, rfl⟩
              go_wp2_with fail
              refine (string_any _ _ _ _ _ H3.out.one).mono ?_
              rintro e w5 ⟨rfl, rfl⟩
              go_wp2_with fail
              refine (string_any _ _ _ _ _ H3.out.two).mono ?_
              rintro e w5 ⟨rfl, rfl⟩
              go_wp2_with fail
              go_returns
              exact ⟨rfl, HB.out⟩

theorem opened {H : Type} {enc : TypeId × Value → H} {W : World} {base : Nat} {gs : List (DataW H)} (v0 : Value) (d0 : DataW H) (p0 : List MemPlace) (v1 : Value) (d1 : DataW H) (p1 : List MemPlace)
    (o0 : Value.okWide Try.prog W .any base 22 v0) (t0 : DataW.Trod enc Try.prog W 0 (fun _ => true) true 22 v0 d0 p0)
    (o1 : Value.okWide Try.prog W .any base 22 v1) (t1 : DataW.Trod enc Try.prog W 0 (fun _ => true) true 22 v1 d1 p1)
    (hsz : (DataW.weightsEach Try.prog ([22, 22] ++ []) ([d0, d1] ++ gs)).all (· ≤ reachBytes) = true) :
    Calls Try.prog 7 #[v0, v1] W fun e W' => e = .returned (.bool true) ∧ Below W.heap.size W W' := by
  obtain ⟨A, ss, c, rfl, hs, hm, _⟩ := open_things o0 t0 (Base.small_of hsz (j := 0) rfl rfl)
  obtain ⟨B, ts, d, rfl, ht, hm2, _⟩ := open_things o1 t1 (Base.small_of hsz (j := 1) rfl rfl)
  by_cases h : (100 < ss.length ∨ 200000 < (ss.map (·.s.size)).sum) ∨ (100 < ts.length ∨ 200000 < (ts.map (·.s.size)).sum)
  · exact walk_long A B ss ts c d W hs ht hm hm2 h
  · exact walk A B ss ts c d W hs ht (by omega) (by omega) (by omega) (by omega)

theorem contract (H : Type) (enc : TypeId × Value → H) (W : World) (base : Nat) (args : Array Value) (ds gs : List (DataW H)) (before : List MemPlace)
    (hval : ∀ (j : Nat) t v, Try.f7.params[j]? = some t → args[j]? = some v → Value.okWide Try.prog W .any base t v)
    (hW : DataW.Whole enc Try.prog Try.f7.params.toList Rows.wireJoinsSpec.vars false W args.toList ds gs before)
    (hsz : (DataW.weightsEach Try.prog (Try.f7.params.toList ++ []) (ds ++ gs)).all (· ≤ reachBytes) = true) :
    Calls Try.prog 7 args W fun e W' => ∃ v, e = .returned v ∧ Rows.wireJoinsSpec.post enc Try.prog Try.f7 false true false false W args v W' := by
  have hW0 := hW
  obtain ⟨p, q, hA0, hV, rfl, _, _⟩ := hW
  have hA : DataW.TrodAll enc Try.prog W 0 (fun _ => true) true Try.f7.params.toList args.toList ds p := hA0
  rw [Try.params7] at hA hval hsz
  obtain ⟨v0, vs0, d0, ds0, p0, q0, hargs, rfl, rfl, h0, r0⟩ := trodAll_cons hA
  obtain ⟨v1, vs1, d1, ds1, p1, q1, rfl, rfl, rfl, h1, r1⟩ := trodAll_cons r0
  obtain ⟨rfl, rfl, rfl⟩ := trodAll_nil r1
  obtain rfl : args = #[v0, v1] := by cases args; simp_all
  refine (opened v0 d0 p0 v1 d1 p1 (hval 0 22 v0 rfl rfl) h0 (hval 1 22 v1 rfl rfl) h1 hsz).mono fun e W' ⟨he, hb⟩ => ⟨_, he, ?_⟩
  exact Base.law_post (tb := 4) Base.laidOut (by kernel_rfl) rfl Try.underlying4 rfl (fun l hl => by
    rw [Try.params7] at hl
    match l, hl with
    | [_, _], _ => rfl) (by rw [Try.params7]; rfl) hW0 hb

theorem laid_met (os : Os) : laidMet Try.prog Rows.wireJoinsRow.laid ((Base.plainWorld os).forCall (fun _ _ => 0) ⟨#[], #[.slice none 0 0, .slice none 0 0], []⟩).memory := laidMet_nil _ _
theorem reads (os : Os) {H : Type} (enc : TypeId × Value → H) : ∃ places, DataW.whole enc Try.prog ((Base.plainWorld os).forCall (fun _ _ => 0) ⟨#[], #[.slice none 0 0, .slice none 0 0], []⟩).memory Try.f7.params.toList Rows.wireJoinsSpec.vars false (#[.slice none 0 0, .slice none 0 0] : Array Value).toList 8 = some ([.nil, .nil], [], places) :=
  ⟨[], by kernel_rfl⟩

set_option maxRecDepth 100000 in
theorem lifted (os : Os) (started : os.Started) (H : Type) (enc : TypeId × Value → H) (F : Stop.Interp) :
    ReturnsInHanded {} Try.checked os 7 .any ((OpenSpec.ofChange Rows.wireJoinsSpec).preRow enc Try.prog Try.f7 Rows.wireJoinsRow.domain false Rows.wireJoinsRow.laid) (((OpenSpec.ofChange Rows.wireJoinsSpec).at F).post enc Try.prog Try.f7 false true false false) := by
  obtain ⟨places, hx⟩ := reads os enc
  refine returnsInHanded_of_row (C := Try.checked) (s := OpenSpec.ofChange Rows.wireJoinsSpec) Base.own started (by kernel_rfl) Try.func7
    (witness_row_at (enc := enc) (C := Try.checked) false (Base.plainWorld os) #[.slice none 0 0, .slice none 0 0] rfl (by kernel_rfl) (by kernel_rfl) (by kernel_rfl)
      (OpenSpec.preRow_of_cond 8 hx (by kernel_rfl) (fun k hk => by cases hk) (by kernel_rfl) (laid_met os))) ?_
  intro W base args ds gs before hval hW _ _ hsz _ _ _
  exact contract H enc W base args ds gs before hval hW hsz

theorem said : Rows.WireJoinsSaid :=
  OpenClaim.holds_of_cond 7 Try.f7 rfl rfl rfl rfl rfl rfl rfl ⟨rfl, rfl, rfl, rfl, rfl⟩ rfl rfl rfl rfl rfl (by kernel_rfl) Try.func7 (by kernel_rfl)
    (of_decide_eq_true (by kernel_rfl)) (by unfold Func.isWrapper; rw [if_neg (of_decide_eq_false (by kernel_rfl))]; exact ⟨rfl, rfl⟩)
    (fun os started H enc _ F => by rw [OpenClaim.pre_eq_preRow]; exact lifted os started H enc F)
#print axioms said
end Go.Proofs.Ytbjjkbaigpophaa.WireJoins
