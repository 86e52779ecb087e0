/-
  WireReads is proved: whatever is read of any bytes is what the document says, and where something isn't there nothing is read any more; what is read to its end is put so. Conditions: none.
-/
import Derived.Test.YtbjjkbaigpophaaWireMath
import Derived.Test.YtbjjkbaigpophaaOpen
namespace Go.Proofs.Ytbjjkbaigpophaa.WireReads
open Go.ChangeShapes Go.WideShapes Go.ChangeAt Go.RowKit Go.Proofs.Ytbjjkbaigpophaa.Mem Go.Proofs.Ytbjjkbaigpophaa.Wire

set_option maxHeartbeats 1000000 in
theorem walk_long (s : ByteArray) (A : Option Addr) (len c : Nat) (w : World) (hs : s.size ≤ 140737488355328) (hm : len ≤ maxLen) (h : 100000 < s.size ∨ 100 < len) :
    Calls Try.prog 4 #[.string s, .slice A len c] w fun e w' => e = .returned (.bool true) ∧ Below w.heap.size w w' := by
  unfold maxLen at hm
  by_cases h1 : 100000 < s.size
  · clear h
    go_enter Try.func4, Try.ntmps4
    go_wp2_with fail
    refine (awake_any w).mono ?_
    rintro e w1 ⟨rfl, hb⟩
    go_wp2_with fail
    go_returns
    exact ⟨rfl, hb⟩
  · have h2 := h.resolve_left h1
    clear h
    go_enter Try.func4, Try.ntmps4
    go_wp2_with fail
    refine (awake_any w).mono ?_
    rintro e w1 ⟨rfl, hb⟩
    go_wp2_with fail
    go_returns
    exact ⟨rfl, hb⟩

/-- Where a reader and a writer stand, apart from one another, when some of the kinds are read: m was put, l is left. -/
structure At (w0 wr : World) (S : ByteArray) (gr gw : Nat) (rw : Option Nat) (m : List UInt8) (l : ByteArray) (b : Bool) : Prop where
  below : Below w0.heap.size w0 wr
  rd : Rd wr (some gr) (if b then nil else l) b
  wr : Wr wr w0.heap.size gw rw (some m)
  apart : gr ≠ gw ∧ rw ≠ some gr
  all : b = false → m ++ l.data.toList = S.data.toList
  mlen : m.length ≤ S.size
  llen : l.size ≤ S.size
  own : w0.heap.size ≤ gr

theorem At.later {w0 wr w' : World} {S : ByteArray} {gr gw : Nat} {rw : Option Nat} {m : List UInt8} {l : ByteArray} {b : Bool} (h : At w0 wr S gr gw rw m l b) (hb : Below wr.heap.size wr w') : At w0 w' S gr gw rw m l b :=
  ⟨h.below.trans (hb.mono h.below.size), h.rd.later hb, h.wr.later hb, h.apart, h.all, h.mlen, h.llen, h.own⟩
theorem at_get {w0 wr w' : World} {S : ByteArray} {gr gw : Nat} {rw : Option Nat} {m0 m : List UInt8} {l0 l x : ByteArray} {b0 b : Bool} (h : At w0 wr S gr gw rw m0 l0 b0) (ho : Foot (some gr) wr w') (hr : Rd w' (some gr) x b)
    (ha : b = false → l = x ∧ m ++ l.data.toList = S.data.toList) (hm : m.length ≤ S.size) (hl : l.size ≤ S.size) (hw : Wr wr w0.heap.size gw rw (some m)) : At w0 w' S gr gw rw m l b := by
  refine ⟨h.below.trans (ho.below h.below.size fun k hk => ?_), ?_, hw.only ho ?_ ?_, h.apart, fun hb => (ha hb).2, hm, hl, h.own⟩
  · rw [show k = gr from Option.some.inj hk]; exact h.own
  · cases b with
    | true => rw [if_pos rfl]; exact (hr.empty rfl) ▸ hr
    | false => rw [if_neg (by decide), (ha rfl).1]; exact hr
  · intro e; exact h.apart.1 (Option.some.inj e).symm
  · intro k hk e; exact h.apart.2 (by rw [hk, e])

set_option maxHeartbeats 4000000 in
theorem walk (s : ByteArray) (A : Option Addr) (f : Nat → Int) (len c : Nat) (w : World) (hs : s.size ≤ 100000) (hl : len ≤ 100)
    (hA : ∀ i, i < len → (∃ b off, A = some ⟨b, off, none⟩ ∧ w.cell? ⟨b, off + i, none⟩ = some (.int .u8 (f i))) ∧ (Lit.int .u8 (f i)).wf = true) :
    Calls Try.prog 4 #[.string s, .slice A len c] w fun e w' => e = .returned (.bool true) ∧ Below w.heap.size w w' := by
  have HA := Lib.hid hA
  clear hA
  go_enter Try.func4, Try.ntmps4
  go_wp2_with fail
  refine (awake_any w).mono ?_
  rintro e w1 ⟨rfl, hb⟩
  go_wp2_with fail
  refine (newReader_any w1 s (by omega)).mono ?_
  rintro e w2 ⟨rfl, hr2, hb2⟩
  have hb3 := hb.trans (hb2.mono hb.size)
  have hlt2 := (hr2.cells _ rfl).lt
  have H0 : Hid (At w (w2.alloc (.cells #[.slice none 0 0, .bool false] 27)) s w1.heap.size w2.heap.size none [] s false) := Lib.hid
    ⟨hb3.alloc hb3.size _, hr2.later (below_alloc _ _), wr_new w2 _ hb3.size, ⟨by omega, by simp⟩, fun _ => rfl, Nat.zero_le _, Nat.le_refl _, hb.size⟩
  clear hb hr2 hb2 hb3 hlt2
  generalize w1.heap.size = gr at *
  go_wp2_with fail
  generalize w2.heap.size = gw at *
  go_loopw [7, 8, 30] (fun left broken i wr => ∃ k rw m l b, k ≤ len ∧ i = .int .i64 (k : Int) ∧ left = .string l ∧ broken = .bool b ∧ At w wr s gr gw rw m l b) (fun _ _ i _ => len - (intOf i).toNat)
  case atStart => exact ⟨0, none, [], s, false, Nat.zero_le _, rfl, rfl, rfl, H0.out⟩
  case round =>
    obtain ⟨k, rw, m, l, b, hk, rfl, rfl, rfl, hat⟩ := hrel
    have H := Lib.hid hat
    clear hat
    by_cases hlt : k < len
    · obtain ⟨⟨ab, ao, rfl, hc⟩, hwf⟩ := HA.out k hlt
      have c0 := (H.out.below.cell (block_of_cell hc)).trans hc
      have h8 := u8_range hwf
      generalize f k = x at *
      obtain ⟨q, hq, hq4⟩ : ∃ q : Nat, x % 5 = (q : Int) ∧ q ≤ 4 := ⟨(x % 5).toNat, by omega, by omega⟩
      clear hc hwf
      cases b with
      | true =>
        have hr := H.out.rd
        rw [if_pos rfl] at hr
        have HGB := Lib.hid (got_broken q hq4)
        go_wp2_with fail
        refine (law_get wr (some gr) nil true q hr hq4).mono ?_
        rintro e w3 ⟨rfl, hr3, ho3⟩
        rw [HGB.out] at hr3 ⊢
        have H3 := Lib.hid (at_get H.out ho3 (b := true) (l := l) (m := m) hr3 (fun h => by cases h) H.out.mlen H.out.llen H.out.wr)
        clear hr ho3
        unfold Th.val
        go_wp2_with fail
        refine (left_any _ (some gr) nil true (hr3.later (below_alloc _ _))).mono ?_
        rintro e w4 ⟨rfl, rfl⟩
        clear hr3
        go_wp2_with fail
        go_roundw
        case rel => exact ⟨k + 1, rw, m, l, true, by omega, by go_num, rfl, rfl, H3.out.later (below_alloc _ _)⟩
        case measure => simp [intOf]; omega
      | false =>
        have hr := H.out.rd
        rw [if_neg (by decide)] at hr
        have hg := got_of_get q l hq4 hr.small
        cases hgb : getB q l with
        | none =>
          rw [hgb] at hg
          have HV := Lib.hid (show getV q l = .tuple #[th0.val, .int .i64 0] by unfold getV; rw [hgb])
          have HGB := Lib.hid hg
          clear hgb hg
          go_wp2_with fail
          refine (law_get wr (some gr) l false q hr hq4).mono ?_
          rintro e w3 ⟨rfl, hr3, ho3⟩
          rw [HGB.out] at hr3 ⊢
          have H3 := Lib.hid (at_get H.out ho3 (b := true) (l := l) (m := m) hr3 (fun h => by cases h) H.out.mlen H.out.llen H.out.wr)
          have HS := Lib.hid hr.small
          clear hr ho3
          unfold Th.val
          go_wp2_with fail
          refine (get_any q l _ hq4 HS.out).mono ?_
          rintro e w4 ⟨rfl, hb4⟩
          rw [HV.out]
          unfold th0 Th.val
          have H4 := Lib.hid ((H3.out.later (below_alloc _ _)).later hb4)
          have HR4 := Lib.hid ((hr3.later (below_alloc _ _)).later hb4)
          have HE := Lib.hid (show endV nil true = 2 from rfl)
          clear hr3 hb4
          go_wp2_with fail
          refine (left_any _ (some gr) nil true (HR4.out.later (below_alloc _ _))).mono ?_
          rintro e w5 ⟨rfl, rfl⟩
          go_wp2_with fail
          refine (end_any _ (some gr) nil true (HR4.out.later (below_alloc _ _))).mono ?_
          rintro e w5 ⟨rfl, rfl⟩
          rw [HE.out]
          go_wp2_with fail
          go_roundw
          case rel => exact ⟨k + 1, rw, m, l, true, by omega, by go_num, rfl, rfl, H4.out.later (below_alloc _ _)⟩
          case measure => simp [intOf]; omega
        | some tn =>
          obtain ⟨t, n⟩ := tn
          have hp := put_of_get q l t n hq4 hgb
          rw [hgb] at hg
          obtain ⟨hg1, hg2, hg3, hg4, hg5⟩ := hg
          have HV := Lib.hid (show getV q l = .tuple #[t.val, .int .i64 n] by unfold getV; rw [hgb])
          have HGB := Lib.hid hg1
          have hzl := H.out.llen
          have hzm := H.out.mlen
          have hall := H.out.all rfl
          have hlen : m.length + l.size = s.size := by
            have h := congrArg List.length hall
            rw [List.length_append, toList_size, toList_size] at h
            exact h
          have hx : (l.extract n l.size).size = l.size - n := by rw [ByteArray.size_extract]; omega
          have HX := Lib.hid (show (l.extract n l.size).data.toList = l.data.toList.drop n by
            rw [ext_list, List.take_of_length_le (by rw [toList_size]; exact Nat.le_refl _)])
          have HPS := Lib.hid (show putSt (some m) t = some (m ++ l.data.toList.take n) by
            unfold putSt
            rw [if_neg (by omega), hp]
            rfl)
          have HALL := Lib.hid (show (m ++ l.data.toList.take n) ++ (l.extract n l.size).data.toList = s.data.toList by
            rw [HX.out, List.append_assoc, List.take_append_drop, hall])
          have HML := Lib.hid (show (m ++ l.data.toList.take n).length ≤ s.size by rw [List.length_append, List.length_take, toList_size]; omega)
          have HTS := Lib.hid (show t.s.size ≤ 1000000000 by have := get_text_size q l t n hgb; omega)
          clear hgb hg1 hp hall hlen hg4
          obtain ⟨tk, tn, ts⟩ := t
          go_wp2_with fail
          refine (law_get wr (some gr) l false q hr hq4).mono ?_
          rintro e w3 ⟨rfl, hr3, ho3⟩
          rw [HGB.out] at hr3 ⊢
          have HS := Lib.hid hr.small
          have HW3 := Lib.hid (H.out.wr.only ho3 (fun e => H.out.apart.1 (Option.some.inj e).symm) (fun k hk e => H.out.apart.2 (by rw [hk, e])))
          have H3 := Lib.hid ho3
          have hlw := HW3.out.lt
          have hlr := (hr3.cells gr rfl).lt
          unfold Th.val
          have HC3 := Lib.hid (cells_new w3 29 [.int .i64 tk, .int .i64 tn, .string ts] #[.int .i64 tk, .int .i64 tn, .string ts] rfl)
          clear hr ho3
          go_wp2_with fail
          refine (get_any q l _ hq4 HS.out).mono ?_
          rintro e w4 ⟨rfl, hb4⟩
          rw [HV.out]
          unfold Th.val
          have hb34 := (below_alloc w3 (.cells #[.int .i64 tk, .int .i64 tn, .string ts] 29)).trans (hb4.mono (below_alloc w3 _).size)
          have HR4 := Lib.hid ((hr3.later (below_alloc _ _)).later hb4)
          have HW4 := Lib.hid ((HW3.out.later (below_alloc _ _)).later hb4)
          have hc4 := HC3.out.later hb4
          have HC4 := Lib.hid hc4
          have d0 := hc4.cell (j := 0) rfl
          have d1 := hc4.cell (j := 1) rfl
          have d2 := hc4.cell (j := 2) rfl
          have HB34 := Lib.hid hb34
          have hlt34 := hc4.lt
          clear hr3 hb4 hc4 hb34
          go_wp2_with fail
          refine (left_any _ (some gr) _ false (HR4.out.later (below_alloc _ _))).mono ?_
          rintro e w5 ⟨rfl, rfl⟩
          go_wp2_with fail
          have HP := law_put _ w.heap.size gw rw (some m) ⟨tk, tn, ts⟩ (HW4.out.later (below_alloc w4 (.cells #[.int .i64 tk, .int .i64 tn, .string ts] 29))) (by simp only [Option.getD_some]; omega) HTS.out
          rw [HPS.out] at HP
          refine HP.mono ?_
          rintro e w5 ⟨rfl, q5, hw5, ht5⟩
          have H5 : Hid (At w w5 s gr gw q5 (m ++ l.data.toList.take n) (l.extract n l.size) false) := by
            have hb3 := H.out.below.trans (H3.out.below H.out.below.size fun k hk => by rw [show k = gr from Option.some.inj hk]; exact H.out.own)
            have hb4 := hb3.trans (HB34.out.mono hb3.size)
            have hb5 := hb4.alloc hb4.size (.cells #[.int .i64 tk, .int .i64 tn, .string ts] 29)
            refine Lib.hid ⟨hb5.trans (ht5.below (HW4.out.later (below_alloc _ _)) hb5.size), ?_, hw5, ⟨H.out.apart.1, fun e => ?_⟩, fun _ => HALL.out, HML.out, by omega, H.out.own⟩
            · rw [if_neg (by decide)]
              refine (HR4.out.later (below_alloc _ _)).only ht5.1 ?_
              rintro g hg (e | e)
              · exact H.out.apart.1 ((Option.some.inj hg).trans e)
              · exact H.out.apart.2 (by rw [← e, ← hg])
            · rcases ht5.2 gr e with h1 | h1
              · exact H.out.apart.2 h1.symm
              · rw [World.size_alloc] at h1; omega
          clear HP ht5 hw5
          go_wp2_with fail
          go_roundw
          case rel => exact ⟨k + 1, q5, _, _, false, by omega, by go_num, rfl, rfl, H5.out⟩
          case measure => simp [intOf]; omega
    · have hr := H.out.rd
      cases b with
      | true =>
        rw [if_pos rfl] at hr
        have HE := Lib.hid (show endV nil true = 2 from rfl)
        go_wp2_with fail
        refine (end_any _ (some gr) nil true hr).mono ?_
        rintro e w5 ⟨rfl, rfl⟩
        rw [HE.out]
        go_wp2_with fail
        go_returns
        exact ⟨rfl, H.out.below⟩
      | false =>
        rw [if_neg (by decide)] at hr
        by_cases hn : l = nil
        · have HE := Lib.hid (show endV l false = 0 by subst hn; rfl)
          have hall := H.out.all rfl
          have hem : l.toList.isEmpty = true := by subst hn; rw [ByteArray.toList_eq]; rfl
          have hm : m = s.data.toList := by
            rw [← hall]; subst hn; simp
          have HM := Lib.hid (show ByteArray.mk m.toArray = s by rw [hm])
          clear hall hm hn
          go_wp2_with fail
          refine (end_any _ (some gr) l false hr).mono ?_
          rintro e w5 ⟨rfl, rfl⟩
          rw [HE.out]
          go_wp2_with fail
          refine (string_any _ _ _ _ _ H.out.wr).mono ?_
          rintro e w5 ⟨rfl, rfl⟩
          rw [Option.getD_some, HM.out]
          go_wp2_with fail
          go_returns
          exact ⟨rfl, H.out.below⟩
        · have HE := Lib.hid (show endV l false = 5 by unfold endV; rw [if_neg (by decide), if_neg hn])
          have hem : l.toList.isEmpty = false := by
            rw [ByteArray.toList_eq]
            cases hl : l.data.toList with
            | nil => exact absurd (ByteArray.ext (Array.ext' hl)) hn
            | cons _ _ => rfl
          clear hn
          go_wp2_with fail
          refine (end_any _ (some gr) l false hr).mono ?_
          rintro e w5 ⟨rfl, rfl⟩
          rw [HE.out]
          go_wp2_with fail
          go_returns
          exact ⟨rfl, H.out.below⟩

theorem opened {H : Type} {enc : TypeId × Value → H} {W : World} {base : Nat} {gs : List (DataW H)} (v0 : Value) (d0 : DataW H) (p0 : List MemPlace) (v1 : Value) (d1 : DataW H) (p1 : List MemPlace)
    (o0 : Value.okWide Try.prog W .any base 9 v0) (t0 : DataW.Trod enc Try.prog W 0 (fun _ => true) true 9 v0 d0 p0)
    (o1 : Value.okWide Try.prog W .any base 25 v1) (t1 : DataW.Trod enc Try.prog W 0 (fun _ => true) true 25 v1 d1 p1)
    (hsz : (DataW.weightsEach Try.prog ([9, 25] ++ []) ([d0, d1] ++ gs)).all (· ≤ reachBytes) = true) :
    Calls Try.prog 4 #[v0, v1] W fun e W' => e = .returned (.bool true) ∧ Below W.heap.size W W' := by
  obtain ⟨s, rfl, rfl, rfl, hs⟩ := Go.ChangeMaps.open_string Try.underlying9 o0 t0
  obtain ⟨A, f, len, c, rfl, hm, _, hA⟩ := Base.open_nums Try.underlying25 Try.underlying5 (by kernel_rfl) o1 t1
  have hs' : s.size ≤ 140737488355328 := by
    have h2 := (Base.small_of hsz (j := 0) (t := 9) (d := .lit (.string s.data.toList)) rfl rfl).text
    rw [toList_size] at h2
    omega
  by_cases h : 100000 < s.size ∨ 100 < len
  · exact walk_long s A len c W hs' hm h
  · exact walk s A f len c W (by omega) (by omega) hA

theorem contract (H : Type) (enc : TypeId × Value → H) (W : World) (base : Nat) (args : Array Value) (ds gs : List (DataW H)) (before : List MemPlace)
    (hval : ∀ (j : Nat) t v, Try.f4.params[j]? = some t → args[j]? = some v → Value.okWide Try.prog W .any base t v)
    (hW : DataW.Whole enc Try.prog Try.f4.params.toList Rows.wireReadsSpec.vars false W args.toList ds gs before)
    (hsz : (DataW.weightsEach Try.prog (Try.f4.params.toList ++ []) (ds ++ gs)).all (· ≤ reachBytes) = true) :
    Calls Try.prog 4 args W fun e W' => ∃ v, e = .returned v ∧ Rows.wireReadsSpec.post enc Try.prog Try.f4 false true false false W args v W' := by
  have hW0 := hW
  obtain ⟨p, q, hA0, hV, rfl, _, _⟩ := hW
  have hA : DataW.TrodAll enc Try.prog W 0 (fun _ => true) true Try.f4.params.toList args.toList ds p := hA0
  rw [Try.params4] at hA hval hsz
  obtain ⟨v0, vs0, d0, ds0, p0, q0, hargs, rfl, rfl, h0, r0⟩ := trodAll_cons hA
  obtain ⟨v1, vs1, d1, ds1, p1, q1, rfl, rfl, rfl, h1, r1⟩ := trodAll_cons r0
  obtain ⟨rfl, rfl, rfl⟩ := trodAll_nil r1
  obtain rfl : args = #[v0, v1] := by cases args; simp_all
  refine (opened v0 d0 p0 v1 d1 p1 (hval 0 9 v0 rfl rfl) h0 (hval 1 25 v1 rfl rfl) h1 hsz).mono fun e W' ⟨he, hb⟩ => ⟨_, he, ?_⟩
  exact Base.law_post (tb := 4) Base.laidOut (by kernel_rfl) rfl Try.underlying4 rfl (fun l hl => by
    rw [Try.params4] at hl
    match l, hl with
    | [_, _], _ => rfl) (by rw [Try.params4]; rfl) hW0 hb

theorem laid_met (os : Os) : laidMet Try.prog Rows.wireReadsRow.laid ((Base.plainWorld os).forCall (fun _ _ => 0) ⟨#[], #[.string ⟨#[]⟩, .slice none 0 0], []⟩).memory := laidMet_nil _ _
theorem reads (os : Os) {H : Type} (enc : TypeId × Value → H) : ∃ places, DataW.whole enc Try.prog ((Base.plainWorld os).forCall (fun _ _ => 0) ⟨#[], #[.string ⟨#[]⟩, .slice none 0 0], []⟩).memory Try.f4.params.toList Rows.wireReadsSpec.vars false (#[.string ⟨#[]⟩, .slice none 0 0] : Array Value).toList 8 = some ([.lit (.string []), .nil], [], places) :=
  ⟨[], by kernel_rfl⟩

set_option maxRecDepth 100000 in
theorem lifted (os : Os) (started : os.Started) (H : Type) (enc : TypeId × Value → H) (F : Stop.Interp) :
    ReturnsInHanded {} Try.checked os 4 .any ((OpenSpec.ofChange Rows.wireReadsSpec).preRow enc Try.prog Try.f4 Rows.wireReadsRow.domain false Rows.wireReadsRow.laid) (((OpenSpec.ofChange Rows.wireReadsSpec).at F).post enc Try.prog Try.f4 false true false false) := by
  obtain ⟨places, hx⟩ := reads os enc
  refine returnsInHanded_of_row (C := Try.checked) (s := OpenSpec.ofChange Rows.wireReadsSpec) Base.own started (by kernel_rfl) Try.func4
    (witness_row_at (enc := enc) (C := Try.checked) false (Base.plainWorld os) #[.string ⟨#[]⟩, .slice none 0 0] rfl (by kernel_rfl) (by kernel_rfl) (by kernel_rfl)
      (OpenSpec.preRow_of_cond 8 hx (by kernel_rfl) (fun k hk => by cases hk) (by kernel_rfl) (laid_met os))) ?_
  intro W base args ds gs before hval hW _ _ hsz _ _ _
  exact contract H enc W base args ds gs before hval hW hsz

theorem said : Rows.WireReadsSaid :=
  OpenClaim.holds_of_cond 4 Try.f4 rfl rfl rfl rfl rfl rfl rfl ⟨rfl, rfl, rfl, rfl, rfl⟩ rfl rfl rfl rfl rfl (by kernel_rfl) Try.func4 (by kernel_rfl)
    (of_decide_eq_true (by kernel_rfl)) (by unfold Func.isWrapper; rw [if_neg (of_decide_eq_false (by kernel_rfl))]; exact ⟨rfl, rfl⟩)
    (fun os started H enc _ F => by rw [OpenClaim.pre_eq_preRow]; exact lifted os started H enc F)
#print axioms said
end Go.Proofs.Ytbjjkbaigpophaa.WireReads
