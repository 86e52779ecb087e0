/-
  FrameAll is proved: frames one behind the other, and a beginning of one more, are read as their payloads, up to that. Conditions: the table of half bytes holds what its initialiser lays (tied to the program's text).
-/
import Derived.Test.YtcbmbajlmcoldaaDoorFrameImpl
import Derived.Test.YtcbmbajlmcoldaaDoorFrameLaw
import Derived.Test.YtcbmbajlmcoldaaDoorCards
import Derived.Test.YtcbmbajlmcoldaaDoorTie
namespace Go.Proofs.YtcbmbajlmcoldaaDoor.FrameAll
open Go.ChangeShapes Go.WideShapes Go.ChangeAt Go.RowKit
open Go.Proofs.YtcbmbajlmcoldaaDoor.Mem Go.Proofs.YtcbmbajlmcoldaaDoor.Crc Go.Proofs.YtcbmbajlmcoldaaDoor.Wire Go.Proofs.YtcbmbajlmcoldaaDoor.Frame

set_option maxHeartbeats 1000000 in
theorem walk_long (C : Does) (A : Option Addr) (ss : List ByteArray) (c : Nat) (m : ByteArray) (x : Int) (w : World) (hT : Tab w) (hs : Strs w A ss) (hm : ss.length ≤ maxLen) (hmz : m.size ≤ 140737488355328) (h : (40 < ss.length ∨ 9000 < (cat ss).length) ∨ 3000 < m.size) :
    Calls Tryd.prog 6 #[.slice A ss.length c, .string m, .int .i64 x] w fun e w' => e = .returned (.bool true) ∧ Below w.heap.size w w' := by
  by_cases h1 : 40 < ss.length ∨ 9000 < (cat ss).length
  · have H1 := Lib.hid h1
    clear h h1
    go_enter Tryd.func6, Tryd.ntmps6
    go_wp2_with fail
    refine (awake_any C _ hT).mono ?_
    rintro e w1 ⟨rfl, hb⟩
    go_wp2_with fail
    refine (long_yes A ss c w1 (hs.later hb) hm H1.out).mono ?_
    rintro e w2 ⟨rfl, rfl⟩
    go_wp2_with fail
    go_returns
    exact ⟨rfl, hb⟩
  · have h2 := h.resolve_left h1
    have h3 : ss.length ≤ 40 := by omega
    have H4 := Lib.hid (show (cat ss).length ≤ 9000 by omega)
    clear h h1
    go_enter Tryd.func6, Tryd.ntmps6
    go_wp2_with fail
    refine (awake_any C _ hT).mono ?_
    rintro e w1 ⟨rfl, hb⟩
    go_wp2_with fail
    refine (long_no A ss c w1 (hs.later hb) H4.out h3).mono ?_
    rintro e w2 ⟨rfl, rfl⟩
    go_wp2_with fail
    go_returns
    exact ⟨rfl, hb⟩

/-- All frames, one behind the other. -/
def frames (ss : List ByteArray) : List UInt8 := ((ss.map fun s => s.data.toList).map frm).flatten
theorem frames_take (ss : List ByteArray) (k : Nat) (h : k < ss.length) : frames (ss.take (k + 1)) = frames (ss.take k) ++ frm ss[k].data.toList := by
  unfold frames
  rw [List.take_succ_eq_append_getElem h, List.map_append, List.map_append, List.flatten_append]
  simp
theorem frames_length (ss : List ByteArray) (h : ∀ s ∈ ss, s.size ≤ 4096) : (frames ss).length ≤ 4102 * ss.length := by
  induction ss with
  | nil => exact Nat.zero_le _
  | cons s ss ih =>
    have h1 := h s (List.mem_cons_self ..)
    have e : frames (s :: ss) = frm s.data.toList ++ frames ss := rfl
    rw [e, List.length_append, List.length_cons, frm_length, toList_size]
    have := ih fun t ht => h t (List.mem_cons_of_mem _ ht)
    omega
theorem fr_frames (ss : List ByteArray) (h : ∀ s ∈ ss, s.size ≤ 4096) (p : List UInt8) (hp : p.length ≤ 4096) (n : Nat) (hn : n < (frm p).length) :
    texts (fr (frames ss ++ (frm p).take n)).1 = ss ∧ (fr (frames ss ++ (frm p).take n)).2 = (frames ss).length := by
  have h1 := fr_frm (ss.map fun s => s.data.toList) ((frm p).take n) (by
    intro q hq
    obtain ⟨s, hs, rfl⟩ := List.mem_map.1 hq
    rw [toList_size]
    exact h s hs)
  have h2 := fr_no (err_cut p n hp hn)
  rw [h2] at h1
  have e : fr (frames ss ++ (frm p).take n) = (ss.map (fun s => s.data.toList) ++ [], (frames ss).length + 0) := h1
  rw [e, List.append_nil]
  refine ⟨?_, rfl⟩
  unfold texts
  rw [List.map_map]
  exact (List.map_congr_left fun s _ => by exact (rfl : (fun p : List UInt8 => (⟨p.toArray⟩ : ByteArray)) s.data.toList = id s)).trans (List.map_id _)

set_option maxHeartbeats 4000000 in
theorem walk (C : Does) (A : Option Addr) (ss : List ByteArray) (c : Nat) (m : ByteArray) (x : Int) (w : World) (hT : Tab w) (hs : Strs w A ss) (hn : ss.length ≤ 40) (hl : (cat ss).length ≤ 9000) (hmz : m.size ≤ 3000) :
    Calls Tryd.prog 6 #[.slice A ss.length c, .string m, .int .i64 x] w fun e w' => e = .returned (.bool true) ∧ Below w.heap.size w w' := by
  have HL := Lib.hid hl
  have HS := Lib.hid hs
  have HT0 := Lib.hid hT
  clear hl hs hT
  go_enter Tryd.func6, Tryd.ntmps6
  go_wp2_with fail
  refine (awake_any C _ HT0.out).mono ?_
  rintro e w1 ⟨rfl, hb⟩
  go_wp2_with fail
  refine (long_no A ss c w1 (HS.out.later hb) HL.out hn).mono ?_
  rintro e w2 ⟨rfl, rfl⟩
  go_wp2_with fail
  go_loopw [7, 27] (fun s i wr => ∃ k : Nat, k ≤ ss.length ∧ i = .int .i64 (k : Int) ∧ s = .string ⟨(frames (ss.take k)).toArray⟩ ∧ (∀ t ∈ ss.take k, t.size ≤ 4096) ∧ Below w.heap.size w wr) (fun _ i _ => ss.length - (intOf i).toNat)
  case atStart => exact ⟨0, Nat.zero_le _, rfl, rfl, fun t h => (by cases h), hb⟩
  case round =>
    obtain ⟨k, hk, rfl, rfl, hks, hbr⟩ := hrel
    have HK := Lib.hid hks
    have HB := Lib.hid hbr
    have hfl := frames_length (ss.take k) hks
    have hkl : (ss.take k).length ≤ 40 := by rw [List.length_take]; omega
    have hfl2 : (frames (ss.take k)).length ≤ 164080 := by omega
    clear hks hbr hfl hkl hb
    by_cases hlt : k < ss.length
    · obtain ⟨ad, rfl, hc, hz⟩ := (HS.out.later HB.out) k hlt
      have HF := Lib.hid (frames_take ss k hlt)
      have HTK := Lib.hid (List.take_succ_eq_append_getElem hlt)
      have hcl : ss[k].size ≤ 9000 := by
        have h1 := cat_take_le ss (k + 1)
        rw [cat_take ss k hlt, List.length_append, toList_size] at h1
        have := HL.out
        omega
      generalize ss[k] = t at *
      generalize frames (ss.take k) = F at *
      by_cases h4 : 4096 < t.size
      · have HE := Lib.hid (show sealE t.data.toList = .tuple #[.string ⟨#[]⟩, .int .i64 5] from if_pos (by rw [toList_size]; exact h4))
        go_wp2_with fail
        refine (seal_one C t wr _ (by omega) (HT0.out.later HB.out)).mono ?_
        rintro e w4 ⟨rfl, hb4⟩
        rw [HE.out]
        have hb5 := HB.out.trans (hb4.mono HB.out.size)
        clear hb4
        go_wp2_with fail
        go_returns
        exact ⟨ret_val (congrArg Value.bool (decide_eq_true (by omega))), hb5⟩
      · have HE := Lib.hid (show sealE t.data.toList = .tuple #[.string ⟨(frm t.data.toList).toArray⟩, .int .i64 0] from if_neg (by rw [toList_size]; exact h4))
        have hap := bytes_app F ⟨(frm t.data.toList).toArray⟩
        have hfz : (frm t.data.toList).length ≤ 4102 := by rw [frm_length, toList_size]; omega
        generalize frm t.data.toList = G at *
        go_wp2_with fail
        refine (seal_one C t wr _ (by omega) (HT0.out.later HB.out)).mono ?_
        rintro e w4 ⟨rfl, hb4⟩
        rw [HE.out]
        have HB5 := Lib.hid (HB.out.trans (hb4.mono HB.out.size))
        clear hb4
        go_wp2_with fail
        go_roundw
        case rel =>
          refine ⟨k + 1, by omega, by go_num, by rw [HF.out], ?_, HB5.out⟩
          intro y hy
          rw [HTK.out] at hy
          rcases List.mem_append.1 hy with hy | hy
          · exact HK.out y hy
          · obtain rfl := List.mem_singleton.1 hy
            omega
        case measure => simp [intOf]; omega
    · have he : ss.take k = ss := List.take_of_length_le (by omega)
      rw [he] at HK hfl2 ⊢
      clear he
      have HE := Lib.hid (show sealE m.data.toList = .tuple #[.string ⟨(frm m.data.toList).toArray⟩, .int .i64 0] from if_neg (by rw [toList_size]; omega))
      have hgz := frm_length m.data.toList
      rw [toList_size] at hgz
      have HFR : Hid (∀ n, n < (frm m.data.toList).length → texts (fr (frames ss ++ (frm m.data.toList).take n)).1 = ss ∧ (fr (frames ss ++ (frm m.data.toList).take n)).2 = (frames ss).length) := Lib.hid fun n hn' => fr_frames ss HK.out _ (by rw [toList_size]; omega) n hn'
      generalize frm m.data.toList = G at *
      generalize frames ss = F at *
      obtain ⟨q, hq, hcut⟩ : ∃ q : Nat, q < G.length ∧ ((x < 0 ∨ (G.length : Int) ≤ x) ∧ q = 0 ∨ (0 ≤ x ∧ x < (G.length : Int)) ∧ x = (q : Int)) := by
        by_cases h : x < 0 ∨ (G.length : Int) ≤ x
        · exact ⟨0, by omega, Or.inl ⟨h, rfl⟩⟩
        · exact ⟨x.toNat, by omega, Or.inr ⟨by omega, by omega⟩⟩
      obtain ⟨hf1, hf2⟩ := HFR.out q hq
      have hex : (ByteArray.mk G.toArray).extract 0 q = ⟨(G.take q).toArray⟩ := ba_ext (by rw [ext_list]; rfl)
      have hap := bytes_app F ⟨(G.take q).toArray⟩
      have HCA : Hid (∀ w, Tab w → Calls Tryd.prog 14 #[.string ⟨(F ++ G.take q).toArray⟩] w fun e w' => ∃ v, e = .returned (.tuple #[v, .int .i64 (F.length : Int)]) ∧ Txt w' w.heap.size v ss ∧ Below w.heap.size w w') := Lib.hid fun w hT => by
        have h := C.all ⟨(F ++ G.take q).toArray⟩ w (by show (F ++ G.take q).toArray.size ≤ _; rw [List.size_toArray, List.length_append, List.length_take]; omega) hT
        rw [show (ByteArray.mk (F ++ G.take q).toArray).data.toList = F ++ G.take q from rfl, hf1, hf2] at h
        exact h
      have HSZ : Hid (∀ t ∈ ss, t.size ≤ 140737488355328) := Lib.hid fun t ht => by have := HK.out t ht; omega
      clear HFR hf1 hf2 HK
      rcases hcut with ⟨hx, rfl⟩ | ⟨⟨hx1, hx2⟩, rfl⟩
      · rw [List.take_zero, List.append_nil] at HCA
        have hx' : x < 0 ∨ (0 ≤ x ∧ (G.length : Int) ≤ x) := by omega
        clear hx hap hex
        rcases hx' with hx | ⟨hx, hx3⟩
        all_goals
          go_wp2_with fail
          refine (seal_one C m wr _ (by omega) (HT0.out.later HB.out)).mono ?_
          rintro e w4 ⟨rfl, hb4⟩
          rw [HE.out]
          have HB5 := Lib.hid (HB.out.trans (hb4.mono HB.out.size))
          clear hb4
          go_wp2_with fail
          refine (HCA.out w4 (HT0.out.later HB5.out)).mono ?_
          rintro e w5 ⟨v5, rfl, ht5, hb6⟩
          obtain ⟨A5, c5, rfl, hs5⟩ := ht5.opened HSZ.out
          have HB6 := Lib.hid (HB5.out.trans (hb6.mono HB5.out.size))
          have HS5 := Lib.hid hs5
          clear ht5 hs5 hb6
          go_wp2_with fail
          refine (same_yes A5 A ss c5 c w5 HS5.out (HS.out.later HB6.out) (by omega)).mono ?_
          rintro e w6 ⟨rfl, hb7⟩
          have hb8 := HB6.out.trans (hb7.mono HB6.out.size)
          clear hb7
          go_wp2_with fail
          go_returns
          exact ⟨rfl, hb8⟩
      · have hq2 : (q : Int) < (G.length : Int) := hx2
        clear hx1 hx2
        go_wp2_with fail
        refine (seal_one C m wr _ (by omega) (HT0.out.later HB.out)).mono ?_
        rintro e w4 ⟨rfl, hb4⟩
        rw [HE.out]
        have HB5 := Lib.hid (HB.out.trans (hb4.mono HB.out.size))
        clear hb4
        go_wp2_with fail
        refine (HCA.out w4 (HT0.out.later HB5.out)).mono ?_
        rintro e w5 ⟨v5, rfl, ht5, hb6⟩
        obtain ⟨A5, c5, rfl, hs5⟩ := ht5.opened HSZ.out
        have HB6 := Lib.hid (HB5.out.trans (hb6.mono HB5.out.size))
        have HS5 := Lib.hid hs5
        clear ht5 hs5 hb6
        go_wp2_with fail
        refine (same_yes A5 A ss c5 c w5 HS5.out (HS.out.later HB6.out) (by omega)).mono ?_
        rintro e w6 ⟨rfl, hb7⟩
        have hb8 := HB6.out.trans (hb7.mono HB6.out.size)
        clear hb7
        go_wp2_with fail
        go_returns
        exact ⟨rfl, hb8⟩

theorem opened {H : Type} {enc : TypeId × Value → H} {W : World} {base : Nat} {gs : List (DataW H)} (v0 : Value) (d0 : DataW H) (p0 : List MemPlace) (v1 : Value) (d1 : DataW H) (p1 : List MemPlace) (v2 : Value) (d2 : DataW H) (p2 : List MemPlace)
    (o0 : Value.okWide Tryd.prog W .any base 22 v0) (t0 : DataW.Trod enc Tryd.prog W 0 (fun _ => true) true 22 v0 d0 p0)
    (o1 : Value.okWide Tryd.prog W .any base 9 v1) (t1 : DataW.Trod enc Tryd.prog W 0 (fun _ => true) true 9 v1 d1 p1)
    (o2 : Value.okWide Tryd.prog W .any base 3 v2) (t2 : DataW.Trod enc Tryd.prog W 0 (fun _ => true) true 3 v2 d2 p2)
    (hsz : (DataW.weightsEach Tryd.prog ([22, 9, 3] ++ []) ([d0, d1, d2] ++ gs)).all (· ≤ reachBytes) = true) (hT : Tab W) :
    Calls Tryd.prog 6 #[v0, v1, v2] W fun e W' => e = .returned (.bool true) ∧ Below W.heap.size W W' := by
  obtain ⟨A, ss, c, rfl, hs, hm, _⟩ := open_texts o0 t0 hsz (j := 0) rfl rfl
  obtain ⟨m, rfl, rfl, rfl, _⟩ := Go.ChangeMaps.open_string Tryd.underlying9 o1 t1
  obtain ⟨x, rfl, rfl, rfl, _⟩ := open_int Tryd.underlying3 o2 t2
  have hmz : m.size ≤ 140737488355328 := by
    have h2 := (Base.small_of hsz (j := 1) (t := 9) (d := .lit (.string m.data.toList)) rfl rfl).text
    rw [toList_size] at h2
    omega
  by_cases h : (40 < ss.length ∨ 9000 < (cat ss).length) ∨ 3000 < m.size
  · exact walk_long code A ss c m x W hT hs hm hmz h
  · exact walk code A ss c m x W hT hs (by omega) (by omega) (by omega)

theorem contract (H : Type) (enc : TypeId × Value → H) (W : World) (base : Nat) (args : Array Value) (ds gs : List (DataW H)) (before : List MemPlace)
    (hval : ∀ (j : Nat) t v, Tryd.f6.params[j]? = some t → args[j]? = some v → Value.okWide Tryd.prog W .any base t v)
    (hW : DataW.Whole enc Tryd.prog Tryd.f6.params.toList Rows.frameAllSpec.vars false W args.toList ds gs before)
    (hsz : (DataW.weightsEach Tryd.prog (Tryd.f6.params.toList ++ []) (ds ++ gs)).all (· ≤ reachBytes) = true) (hG : Tab W) :
    Calls Tryd.prog 6 args W fun e W' => ∃ v, e = .returned v ∧ Rows.frameAllSpec.post enc Tryd.prog Tryd.f6 false true false false W args v W' := by
  have hW0 := hW
  obtain ⟨p, q, hA0, hV, rfl, _, _⟩ := hW
  have hA : DataW.TrodAll enc Tryd.prog W 0 (fun _ => true) true Tryd.f6.params.toList args.toList ds p := hA0
  rw [Tryd.params6] at hA hval hsz
  obtain ⟨v0, vs0, d0, ds0, p0, q0, hargs, rfl, rfl, h0, r0⟩ := trodAll_cons hA
  obtain ⟨v1, vs1, d1, ds1, p1, q1, rfl, rfl, rfl, h1, r1⟩ := trodAll_cons r0
  obtain ⟨v2, vs2, d2, ds2, p2, q2, rfl, rfl, rfl, h2, r2⟩ := trodAll_cons r1
  obtain ⟨rfl, rfl, rfl⟩ := trodAll_nil r2
  obtain rfl : args = #[v0, v1, v2] := by cases args; simp_all
  refine (opened v0 d0 p0 v1 d1 p1 v2 d2 p2 (hval 0 22 v0 rfl rfl) h0 (hval 1 9 v1 rfl rfl) h1 (hval 2 3 v2 rfl rfl) h2 hsz hG).mono fun e W' ⟨he, hb⟩ => ⟨_, he, ?_⟩
  exact Base.law_post (tb := 4) Base.laidOut (by kernel_rfl) rfl Tryd.underlying4 rfl (fun l hl => by
    rw [Tryd.params6] at hl
    match l, hl with
    | [_, _, _], _ => rfl) (by rw [Tryd.params6]; rfl) hW0 hb

theorem laid_met (os : Os) : laidMet Tryd.prog Rows.frameAllRow.laid ((laidWorld os).forCall (fun _ _ => 0) ⟨#[], #[.slice none 0 0, .string ⟨#[]⟩, .int .i64 0], []⟩).memory :=
  laidMet_of_run' 8 (by kernel_rfl) (by kernel_rfl)
theorem reads (os : Os) {H : Type} (enc : TypeId × Value → H) : ∃ places, DataW.whole enc Tryd.prog ((laidWorld os).forCall (fun _ _ => 0) ⟨#[], #[.slice none 0 0, .string ⟨#[]⟩, .int .i64 0], []⟩).memory Tryd.f6.params.toList Rows.frameAllSpec.vars false (#[.slice none 0 0, .string ⟨#[]⟩, .int .i64 0] : Array Value).toList 8 = some ([.nil, .lit (.string []), .lit (.int .i64 0)], [], places) :=
  ⟨[], by kernel_rfl⟩

set_option maxRecDepth 100000 in
theorem lifted (os : Os) (started : os.Started) (H : Type) (enc : TypeId × Value → H) (F : Stop.Interp) :
    ReturnsInHanded {} Tryd.checked os 6 .any ((OpenSpec.ofChange Rows.frameAllSpec).preRow enc Tryd.prog Tryd.f6 Rows.frameAllRow.domain false Rows.frameAllRow.laid) (((OpenSpec.ofChange Rows.frameAllSpec).at F).post enc Tryd.prog Tryd.f6 false true false false) := by
  obtain ⟨places, hx⟩ := reads os enc
  refine returnsInHanded_of_row (C := Tryd.checked) (s := OpenSpec.ofChange Rows.frameAllSpec) Base.own started (by kernel_rfl) Tryd.func6
    (witness_row_at (enc := enc) (C := Tryd.checked) false (laidWorld os) #[.slice none 0 0, .string ⟨#[]⟩, .int .i64 0] rfl (by kernel_rfl) (by kernel_rfl) (by kernel_rfl)
      (OpenSpec.preRow_of_cond 8 hx (by kernel_rfl) (fun k hk => by cases hk) (by kernel_rfl) (laid_met os))) ?_
  intro W base args ds gs before hval hW _ _ hsz hL _ _
  exact contract H enc W base args ds gs before hval hW hsz (table hL)

theorem said : Rows.FrameAllSaid :=
  OpenClaim.holds_of_cond 6 Tryd.f6 rfl rfl rfl rfl rfl rfl rfl ⟨rfl, rfl, rfl, rfl, rfl⟩ rfl rfl rfl rfl rfl (by kernel_rfl) Tryd.func6 (by kernel_rfl)
    (of_decide_eq_true (by kernel_rfl)) (by unfold Func.isWrapper; rw [if_neg (of_decide_eq_false (by kernel_rfl))]; exact ⟨rfl, rfl⟩)
    (fun os started H enc _ F => by rw [OpenClaim.pre_eq_preRow]; exact lifted os started H enc F)

theorem plain (f : FuncId) (fn : Func) (hf : Tryd.pinned.checked.prog.funcNamed "remuda/remudalaw03.FrameAll" = some f) (hfn : Tryd.pinned.checked.prog.funcs[f]? = some fn) :
    false = Tryd.pinned.checked.prog.looks [] ∧ ∀ (j : Nat) t, fn.params[j]? = some t → Tryd.pinned.checked.prog.wantsStandIn t = false := by
  obtain rfl : f = 6 := Option.some.inj ((show Tryd.prog.funcNamed "remuda/remudalaw03.FrameAll" = some 6 by kernel_rfl).symm.trans hf) |>.symm
  obtain rfl : fn = Tryd.f6 := (Option.some.inj (Tryd.func6.symm.trans hfn)).symm
  refine ⟨by kernel_rfl, fun j t ht => ?_⟩
  have hall : Tryd.f6.params.toList.all (fun t => !(Tryd.prog.wantsStandIn t)) = true := by kernel_rfl
  have hm : t ∈ Tryd.f6.params.toList := by simpa using Array.mem_of_getElem? ht
  have h := List.all_eq_true.1 hall t hm
  exact (by simpa using h : Tryd.prog.wantsStandIn t = false)

theorem card : Rows.FrameAllCardSaid :=
  Claim7.holds_tied_plain_at .later [] _ _ _ _ said (fun _ h => by cases h) (by kernel_rfl) (fun _ h => by cases h) frameAll_row_tie rfl ⟨rfl, rfl⟩ (by kernel_rfl) rfl plain (by kernel_rfl)
#print axioms card
end Go.Proofs.YtcbmbajlmcoldaaDoor.FrameAll
