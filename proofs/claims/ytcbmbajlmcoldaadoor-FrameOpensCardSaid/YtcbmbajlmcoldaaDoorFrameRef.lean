/-
  What the document's own answers of layer 3 (frame) come to: Seal, Open, All, Same. Conditions: none.
-/
import Derived.Test.YtcbmbajlmcoldaaDoorFrameMath
import Derived.Test.YtcbmbajlmcoldaaDoorSum
import Derived.Test.YtcbmbajlmcoldaaDoorTexts
namespace Go.Proofs.YtcbmbajlmcoldaaDoor.Frame
open Go.RowKit Go.Proofs.YtcbmbajlmcoldaaDoor.Mem Go.Proofs.YtcbmbajlmcoldaaDoor.Crc Go.Proofs.YtcbmbajlmcoldaaDoor.Wire

theorem le4_take (c : BitVec 32) (k : Nat) (h : k < 4) : (le4 c).take (k + 1) = (le4 c).take k ++ [UInt8.ofNat (c.toNat / 256 ^ k)] := by
  rcases (show k = 0 ∨ k = 1 ∨ k = 2 ∨ k = 3 by omega) with rfl | rfl | rfl | rfl <;> simp [le4]
theorem byte_mod (n : Nat) : ((n : Int) % 256) = ((UInt8.ofNat n).toNat : Int) := by
  have e : (UInt8.ofNat n).toNat = n % 256 := by rw [UInt8.toNat_ofNat']
  rw [e]; rfl

/-- What Seal answers. -/
def sealV (p : ByteArray) : Value := if 4096 < p.size then .tuple #[.string ⟨#[]⟩, .bool false] else .tuple #[.string ⟨(frm p.data.toList).toArray⟩, .bool true]

set_option maxHeartbeats 1000000 in
theorem rseal_any (p : ByteArray) (w : World) (hs : p.size ≤ 140737488355328) :
    Calls Tryd.prog 11 #[.string p] w fun e w' => e = .returned (sealV p) ∧ Below w.heap.size w w' := by
  by_cases hl : 4096 < p.size
  · have HV := Lib.hid (show sealV p = .tuple #[.string ⟨#[]⟩, .bool false] from if_pos hl)
    go_enter Tryd.func11, Tryd.ntmps11
    go_wp2
    go_returns
    exact ⟨ret_val HV.out.symm, Below.refl _ _⟩
  · have HV := Lib.hid (show sealV p = .tuple #[.string ⟨(frm p.data.toList).toArray⟩, .bool true] from if_neg hl)
    have hw : IntKind.u64.wrap (p.size : Int) = (p.size : Int) := by rw [IntKind.wrap_u64]; omega
    have hap := bytes_app (big p.size 2) p
    have hbl := big_length p.size 2
    generalize hh : big p.size 2 ++ p.data.toList = hd at *
    have hdl : hd.length = 2 + p.size := by rw [← hh, List.length_append, big_length, toList_size]
    have HF := Lib.hid (show frm p.data.toList = hd ++ le4 (more 0#32 hd) by unfold frm; rw [toList_size, hh])
    generalize hc : more 0#32 hd = c at *
    have HM : Hid (∀ w, Calls Tryd.prog 20 #[.int .u32 0, .string ⟨hd.toArray⟩] w fun e w' => e = .returned (.int .u32 (c.toNat : Int)) ∧ w = w') := Lib.hid fun w => by
      have h := ref_more_any 0#32 ⟨hd.toArray⟩ w (by show hd.toArray.size ≤ _; rw [List.size_toArray]; omega)
      rw [show (ByteArray.mk hd.toArray).data.toList = hd from rfl, hc] at h
      exact h
    have HN := Lib.hid (show p.size < 18446744073709551616 by omega)
    clear hh hc
    go_enter Tryd.func11, Tryd.ntmps11
    go_wp2_with fail
    refine (big_any p.size 2 _ HN.out (by omega)).mono ?_
    rintro e w1 ⟨rfl, hb⟩
    go_wp2_with fail
    refine (HM.out _).mono ?_
    rintro e w2 ⟨rfl, rfl⟩
    clear hap hbl hw
    go_wp2_with fail
    go_loopw [4, 5, 6] (fun s c' i wr => ∃ k : Nat, k ≤ 4 ∧ i = .int .i64 (k : Int) ∧ s = .string ⟨(hd ++ (le4 c).take k).toArray⟩ ∧ c' = .int .u32 ((c.toNat / 256 ^ k : Nat) : Int) ∧ Below w.heap.size w wr) (fun _ _ i _ => 4 - (intOf i).toNat)
    case atStart => exact ⟨0, Nat.zero_le _, rfl, by simp, by simp, hb⟩
    case round =>
      obtain ⟨k, hk, rfl, rfl, rfl, hb1⟩ := hrel
      by_cases hlt : k < 4
      · have HT := Lib.hid (le4_take c k hlt)
        have hbm := byte_mod (c.toNat / 256 ^ k)
        have HD := Lib.hid (show c.toNat / 256 ^ (k + 1) = c.toNat / 256 ^ k / 256 by rw [Nat.pow_succ, Nat.div_div_eq_div_mul])
        have hlen : (hd ++ (le4 c).take k).length ≤ 4106 := by rw [List.length_append, List.length_take, le4_length]; omega
        have hcl : c.toNat / 256 ^ k < 4294967296 := Nat.lt_of_le_of_lt (Nat.div_le_self _ _) c.isLt
        generalize c.toNat / 256 ^ k = m at *
        generalize UInt8.ofNat m = u at *
        have hcells := cells_new wr 5 ([u].map bv) #[.int .u8 (u.toNat : Int)] rfl
        have hback := string_back (P := Tryd.prog) (cap := 1) (n := 1) Tryd.underlying41 Tryd.underlying5 Tryd.underlying9 hcells rfl
        have hap := bytes_app (hd ++ (le4 c).take k) ⟨[u].toArray⟩
        have HB1 := Lib.hid (hb1.alloc hb1.size (.cells #[.int .u8 (u.toNat : Int)] 5))
        clear hcells hb hb1
        generalize hq : hd ++ (le4 c).take k = q at *
        have HQ := Lib.hid hq
        clear hq
        go_wp2_with fail
        go_roundw
        case rel => exact ⟨k + 1, by omega, by go_num, by rw [HT.out, ← List.append_assoc, HQ.out], by rw [HD.out]; rfl, HB1.out⟩
        case measure => simp [intOf]; omega
      · obtain rfl : k = 4 := by omega
        have he : (le4 c).take 4 = le4 c := rfl
        rw [he, ← HF.out]
        go_wp2_with fail
        go_returns
        exact ⟨ret_val HV.out.symm, hb1⟩
/-- What Open answers. -/
def openV (s : ByteArray) : Value := if err s.data.toList = 0 then .tuple #[.string ⟨(payload s.data.toList).toArray⟩, .int .i64 (6 + flen s.data.toList : Nat), .int .i64 0] else .tuple #[.string ⟨#[]⟩, .int .i64 0, .int .i64 (err s.data.toList)]
theorem flen_at (s : ByteArray) (h : 2 ≤ s.size) : flen s.data.toList = s[0].toNat * 256 + s[1].toNat := by
  have e : s.data.toList.take 2 = [s[0], s[1]] := by
    have h2 : 2 ≤ s.data.toList.length := by rw [toList_size]; exact h
    have h3 : s.data.toList = s.data.toList[0] :: s.data.toList[1] :: s.data.toList.drop 2 := by
      rw [← List.drop_eq_getElem_cons, ← List.drop_eq_getElem_cons, List.drop_zero]
    rw [h3]
    rfl
  unfold flen
  rw [e, valN_cons, valN_cons]
  simp [valN]
theorem frm_payload (l : List UInt8) (h1 : 6 ≤ l.length) (h3 : 6 + flen l ≤ l.length) : frm (payload l) = l.take (2 + flen l) ++ le4 (more 0#32 (l.take (2 + flen l))) ∧ l.take (6 + flen l) = l.take (2 + flen l) ++ (l.drop (2 + flen l)).take 4 ∧ (payload l).length = flen l := by
  have hp : (payload l).length = flen l := by
    unfold payload
    rw [List.length_take, List.length_drop]
    omega
  have hb : big (flen l) 2 = l.take 2 := by
    have h := big_valN (l.take 2)
    rw [List.length_take, Nat.min_eq_left (by omega)] at h
    exact h
  have ht : l.take (2 + flen l) = big (payload l).length 2 ++ payload l := by
    rw [hp, hb]
    unfold payload
    rw [List.take_add]
  refine ⟨?_, ?_, hp⟩
  · unfold frm
    rw [← ht]
  · rw [show 6 + flen l = 2 + flen l + 4 by omega, List.take_add]

set_option maxHeartbeats 2000000 in
theorem ropen_any (s : ByteArray) (w : World) (hs : s.size ≤ 140737488355328) :
    Calls Tryd.prog 13 #[.string s] w fun e w' => e = .returned (openV s) ∧ Below w.heap.size w w' := by
  have hz := toList_size s
  by_cases h1 : s.size < 6
  · have he : err s.data.toList = 4 := by unfold err; rw [if_pos (by omega)]
    have HV := Lib.hid (show openV s = .tuple #[.string ⟨#[]⟩, .int .i64 0, .int .i64 4] by unfold openV; rw [he, if_neg (by decide)])
    clear he
    go_enter Tryd.func13, Tryd.ntmps13
    go_wp2
    go_returns
    exact ⟨ret_val HV.out.symm, Below.refl _ _⟩
  · have hf := flen_at s (by omega)
    have hi0 : 0 < s.size := by omega
    have hi1 : (1 : Int) < (s.size : Int) := by omega
    have hb0 := s[0].toNat_lt
    have hb1 := s[1].toNat_lt
    generalize hn : flen s.data.toList = n at *
    have hfi : ∀ a b : Nat, n = a * 256 + b → ((a : Int) * 256 + (b : Int)) = (n : Int) := fun a b h => by omega
    have HFI := Lib.hid (hfi _ _ hf)
    clear hfi
    by_cases h2 : 4096 < n
    · have he : err s.data.toList = 5 := by unfold err; rw [if_neg (by omega), hn, if_pos h2]
      have HV := Lib.hid (show openV s = .tuple #[.string ⟨#[]⟩, .int .i64 0, .int .i64 5] by unfold openV; rw [he, if_neg (by decide)])
      clear he hn
      go_enter Tryd.func13, Tryd.ntmps13
      go_wp2_with fail
      go_region
      rw [HFI.out]
      clear hf
      go_wp2_with fail
      go_returns
      exact ⟨ret_val HV.out.symm, (Below.refl _ _).drew⟩
    by_cases h3 : s.size < 6 + n
    · have he : err s.data.toList = 4 := by unfold err; rw [if_neg (by omega), hn, if_neg h2, if_pos (by omega)]
      have HV := Lib.hid (show openV s = .tuple #[.string ⟨#[]⟩, .int .i64 0, .int .i64 4] by unfold openV; rw [he, if_neg (by decide)])
      clear he hn
      go_enter Tryd.func13, Tryd.ntmps13
      go_wp2_with fail
      go_region
      rw [HFI.out]
      clear hf
      go_wp2_with fail
      go_returns
      exact ⟨ret_val HV.out.symm, (Below.refl _ _).drew⟩
    obtain ⟨hfp, ht6, hpl⟩ := frm_payload s.data.toList (by omega) (by rw [hn]; omega)
    rw [hn] at hfp ht6 hpl
    have hpx : (s.extract 2 (2 + n)).data.toList = payload s.data.toList := by
      rw [ext_list, List.drop_take, Nat.add_sub_cancel_left]
      unfold payload
      rw [hn]
    have htx : (s.extract 0 (6 + n)).data.toList = s.data.toList.take (6 + n) := by rw [ext_list, List.drop_zero]
    have hps : (s.extract 2 (2 + n)).size = n := by rw [ByteArray.size_extract]; omega
    have HS := Lib.hid (show sealV (s.extract 2 (2 + n)) = .tuple #[.string ⟨(frm (payload s.data.toList)).toArray⟩, .bool true] by unfold sealV; rw [hps, if_neg h2, hpx])
    have HRS : Hid (∀ w, Calls Tryd.prog 11 #[.string (s.extract 2 (2 + n))] w fun e w' => e = .returned (sealV (s.extract 2 (2 + n))) ∧ Below w.heap.size w w') := Lib.hid fun w => rseal_any _ w (by omega)
    have HPB := Lib.hid (show ByteArray.mk (payload s.data.toList).toArray = s.extract 2 (2 + n) from ba_ext hpx.symm)
    by_cases h4 : (s.data.toList.drop (2 + n)).take 4 = le4 (more 0#32 (s.data.toList.take (2 + n)))
    · have he : err s.data.toList = 0 := by unfold err; rw [if_neg (by omega), hn, if_neg h2, if_neg (by omega), if_neg (by rw [h4]; simp)]
      have HV := Lib.hid (show openV s = .tuple #[.string (s.extract 2 (2 + n)), .int .i64 (6 + n : Nat), .int .i64 0] by unfold openV; rw [if_pos he, hn, HPB.out])
      have heq : (ByteArray.mk (frm (payload s.data.toList)).toArray) = s.extract 0 (6 + n) := ba_ext (by rw [htx, ht6, h4, ← hfp])
      rw [heq] at HS
      clear he hn hfp ht6 hpl hpx htx h4 heq
      go_enter Tryd.func13, Tryd.ntmps13
      go_wp2_with fail
      go_region
      rw [HFI.out]
      clear hf
      go_wp2_with fail
      refine (HRS.out _).mono ?_
      rintro e w2 ⟨rfl, hb⟩
      rw [HS.out]
      go_wp2_with fail
      go_returns
      exact ⟨ret_val HV.out.symm, (Below.refl _ w).drew.trans hb⟩
    · have he : err s.data.toList = 3 := by unfold err; rw [if_neg (by omega), hn, if_neg h2, if_neg (by omega), if_pos h4]
      have HV := Lib.hid (show openV s = .tuple #[.string ⟨#[]⟩, .int .i64 0, .int .i64 3] by unfold openV; rw [he, if_neg (by decide)])
      have hne : (ByteArray.mk (frm (payload s.data.toList)).toArray) ≠ s.extract 0 (6 + n) := by
        intro e
        have h5 := congrArg (fun x : ByteArray => x.data.toList) e
        simp only [htx, ht6] at h5
        rw [hfp] at h5
        exact h4 (List.append_cancel_left h5).symm
      generalize ByteArray.mk (frm (payload s.data.toList)).toArray = X at *
      have hsn := str_ne hne
      clear hne
      clear he hn hfp ht6 hpl hpx htx h4
      go_enter Tryd.func13, Tryd.ntmps13
      go_wp2_with fail
      go_region
      rw [HFI.out]
      clear hf
      go_wp2_with fail
      refine (HRS.out _).mono ?_
      rintro e w2 ⟨rfl, hb⟩
      rw [HS.out]
      go_wp2_with fail
      go_returns
      exact ⟨ret_val HV.out.symm, (Below.refl _ w).drew.trans hb⟩
/-- Payloads as texts. -/
def texts (ps : List (List UInt8)) : List ByteArray := ps.map fun p => ⟨p.toArray⟩
theorem texts_app (a b : List (List UInt8)) : texts (a ++ b) = texts a ++ texts b := List.map_append
theorem texts_length (a : List (List UInt8)) : (texts a).length = a.length := List.length_map _

theorem texts_small (ps : List (List UInt8)) (h : ∀ p ∈ ps, p.length ≤ 4096) : ∀ s ∈ texts ps, s.size ≤ 140737488355328 := by
  intro s hs
  obtain ⟨p, hp, rfl⟩ := List.mem_map.1 hs
  have := h p hp
  show p.toArray.size ≤ _
  rw [List.size_toArray]
  omega

set_option maxHeartbeats 1000000 in
theorem rall_any (s : ByteArray) (w : World) (hs : s.size ≤ 1000000) :
    Calls Tryd.prog 15 #[.string s] w fun e w' => ∃ v, e = .returned (.tuple #[v, .int .i64 ((fr s.data.toList).2 : Nat)]) ∧ Txt w' w.heap.size v (texts (fr s.data.toList).1) ∧ Below w.heap.size w w' := by
  have hz := toList_size s
  go_enter Tryd.func15, Tryd.ntmps15
  go_wp2_with fail
  go_loopw [4, 5] (fun out at_ wr => ∃ (k : Nat) (ps : List (List UInt8)), k ≤ s.size ∧ ps.length ≤ k ∧ at_ = .int .i64 (k : Int) ∧ Txt wr w.heap.size out (texts ps) ∧ fr s.data.toList = (ps ++ (fr (s.data.toList.drop k)).1, k + (fr (s.data.toList.drop k)).2) ∧ Below w.heap.size w wr) (fun _ at_ _ => s.size - (intOf at_).toNat)
  case atStart => exact ⟨0, [], Nat.zero_le _, Nat.zero_le _, rfl, txt_new w _ (Nat.le_refl _), by simp, below_alloc _ _⟩
  case round =>
    obtain ⟨k, ps, hk, hpk, rfl, ht, hfr, hb⟩ := hrel
    have hx : (s.extract k s.size).data.toList = s.data.toList.drop k := by
      rw [ext_list, List.take_of_length_le (by omega)]
    have hxs : (s.extract k s.size).size ≤ 140737488355328 := by rw [ByteArray.size_extract]; omega
    have HT := Lib.hid ht
    have HFR := Lib.hid hfr
    have HB := Lib.hid hb
    have hop : openV (s.extract k s.size) = if err (s.data.toList.drop k) = 0 then .tuple #[.string ⟨(payload (s.data.toList.drop k)).toArray⟩, .int .i64 (6 + flen (s.data.toList.drop k) : Nat), .int .i64 0] else .tuple #[.string ⟨#[]⟩, .int .i64 0, .int .i64 (err (s.data.toList.drop k))] := by unfold openV; rw [hx]
    have HO : Hid (∀ w, Calls Tryd.prog 13 #[.string (s.extract k s.size)] w fun e w' => e = .returned (openV (s.extract k s.size)) ∧ Below w.heap.size w w') := Lib.hid fun w => ropen_any _ w hxs
    clear ht hfr hb
    by_cases he : err (s.data.toList.drop k) = 0
    · rw [if_pos he] at hop
      obtain ⟨_, hp1, hp2, hp3⟩ := frm_of_err _ he
      rw [List.length_drop, hz] at hp3
      have HY := Lib.hid (fr_yes he)
      have HOP := Lib.hid hop
      have HDD := Lib.hid (show s.data.toList.drop (k + (6 + flen (s.data.toList.drop k))) = (s.data.toList.drop k).drop (6 + flen (s.data.toList.drop k)) by rw [List.drop_drop])
      generalize flen (s.data.toList.drop k) = n at *
      generalize payload (s.data.toList.drop k) = p at *
      clear hop he hx hxs
      go_wp2_with fail
      refine (HO.out _).mono ?_
      rintro e w2 ⟨rfl, hb2⟩
      rw [HOP.out]
      have HT2 := Lib.hid (HT.out.later hb2)
      have HB2 := Lib.hid (HB.out.trans (hb2.mono HB.out.size))
      clear hb2
      have HT3 := Lib.hid (HT2.out.later (below_alloc w2 (.cells #[.string ⟨p.toArray⟩] 9)))
      have HB3 := Lib.hid (HB2.out.alloc HB2.out.size (.cells #[.string ⟨p.toArray⟩] 9))
      have hpl : (texts ps).length ≤ 1000000000 := by rw [texts_length]; omega
      go_wp2_with (at_builtin
                   refine wpList_text rfl (.tmp 22) (.tmp 24) rfl w.heap.size _ (texts ps) ⟨p.toArray⟩ ⟨w2.heap.size, 0, none⟩ 1 rfl HT3.out rfl (by rw [cell_of_row _ _ _ _ _ _ (heap_alloc_new w2 _)]; rfl) hpl HB3.out.size ?_
                   intro v' w4 ht4 hg4 hat4
                   have HT4 := Lib.hid ht4
                   have HB4 := Lib.hid (HB3.out.grown hg4 HB3.out.size fun i hi => (HT3.out.lt i hi).1)
                   clear ht4 hg4 hat4)
      go_roundw
      case rel =>
        refine ⟨k + (6 + n), ps ++ [p], by omega, by rw [List.length_append, List.length_singleton]; omega, by go_num, by rw [texts_app]; exact HT4.out, ?_, HB4.out⟩
        rw [HDD.out, HFR.out, HY.out]
        simp [Nat.add_assoc]
      case measure => simp [intOf]; omega
    · rw [if_neg he] at hop
      have HN := Lib.hid (fr_no he)
      have HOP := Lib.hid hop
      have hne : (err (s.data.toList.drop k) != 0) = true := by simpa using he
      generalize err (s.data.toList.drop k) = x at *
      clear hop he hx hxs
      go_wp2_with fail
      refine (HO.out _).mono ?_
      rintro e w2 ⟨rfl, hb2⟩
      rw [HOP.out]
      have HT2 := Lib.hid (HT.out.later hb2)
      have HB2 := Lib.hid (HB.out.trans (hb2.mono HB.out.size))
      clear hb2
      go_wp2_with fail
      go_returns
      have hfin : fr s.data.toList = (ps, k) := by rw [HFR.out, HN.out]; simp
      rw [hfin]
      exact ⟨_, rfl, HT2.out, HB2.out⟩

set_option maxHeartbeats 1000000 in
theorem same_yes (A B : Option Addr) (ss : List ByteArray) (c d : Nat) (w : World) (ha : Strs w A ss) (hb : Strs w B ss) (hl : ss.length ≤ 1000000000) :
    Calls Tryd.prog 16 #[.slice A ss.length c, .slice B ss.length d] w fun e w' => e = .returned (.bool true) ∧ Below w.heap.size w w' := by
  go_enter Tryd.func16, Tryd.ntmps16
  go_wp2_with fail
  go_loopw [5] (fun i wr => ∃ k : Nat, k ≤ ss.length ∧ i = .int .i64 (k : Int) ∧ Below w.heap.size w wr) (fun i _ => ss.length - (intOf i).toNat)
  case atStart => exact ⟨0, Nat.zero_le _, rfl, Below.refl _ _⟩
  case round =>
    obtain ⟨k, hk, rfl, hbr⟩ := hrel
    by_cases hlt : k < ss.length
    · obtain ⟨ad, rfl, hc, _⟩ := ha k hlt
      obtain ⟨bd, rfl, hd, _⟩ := hb k hlt
      have c0 := (hbr.cell (block_of_cell hc)).trans hc
      have c1 := (hbr.cell (block_of_cell hd)).trans hd
      have HBR := Lib.hid hbr
      clear hbr hc hd
      generalize ss[k] = t at *
      go_wp2_with fail
      go_region
      go_wp2_with fail
      go_roundw
      case rel => exact ⟨k + 1, by omega, by go_num, HBR.out.drew⟩
      case measure => simp [intOf]; omega
    · go_wp2_with fail
      go_returns
      exact ⟨rfl, hbr⟩
end Go.Proofs.YtcbmbajlmcoldaaDoor.Frame
