/-
  What the landed code of layer 5 does: a journal is a pointer to its disk, nil once it is over. Conditions: none.
-/
import Derived.Test.YtfdhckfpkhoheaaDoorJournalSta
import Derived.Test.YtfdhckfpkhoheaaDoorFrameImpl
import Derived.Test.YtfdhckfpkhoheaaDoorDiskImpl
import Derived.Test.YtfdhckfpkhoheaaDoorBld
namespace Go.Proofs.YtfdhckfpkhoheaaDoor.Journal
open Go.RowKit Go.Proofs.YtfdhckfpkhoheaaDoor.Mem Go.Proofs.YtfdhckfpkhoheaaDoor.Crc Go.Proofs.YtfdhckfpkhoheaaDoor.Frame Go.Proofs.YtfdhckfpkhoheaaDoor.Disk

/-- What a journal's cell holds. -/
def held (g : Nat) (o : Bool) : Value := if o = true then .pointer none else at_ g
/-- A journal in block gj, over the disk in block g. -/
def Jn (w : World) (base : Nat) (S : Foot) (g gj : Nat) (_ : List (List UInt8)) (o : Bool) : Prop :=
  base ≤ gj ∧ (∀ k, S k ↔ k = gj) ∧ Cells w gj 49 [held g o]
variable {w w' : World} {base g gj : Nat} {S : Foot} {r : Option Nat} {rs : List (List UInt8)} {o : Bool} {d : Ds}
theorem Jn.foot (h : Jn w base S g gj rs o) : ∀ k, S k → base ≤ k ∧ k < w.heap.size := fun k hk => by
  obtain rfl := (h.2.1 k).1 hk
  exact ⟨h.1, h.2.2.lt⟩
theorem Jn.only {T : Foot} (h : Jn w base S g gj rs o) (ho : Only T w w') (ha : Apart S T) : Jn w' base S g gj rs o :=
  ⟨h.1, h.2.1, cells_only h.2.2 ho (ha gj ((h.2.1 gj).2 rfl))⟩
theorem Jn.any (h : Jn w base S g gj rs o) (rs' : List (List UInt8)) : Jn w base S g gj rs' o := h
abbrev BothI := @Both Disk.code Jn
theorem both_any (h : Both Disk.code Jn base w S g r gj d rs o) (rs' : List (List UInt8)) : Both Disk.code Jn base w S g r gj d rs' o := ⟨h.journal.any rs', h.disk, h.apart⟩
theorem both_later (h : Both Disk.code Jn base w S g r gj d rs o) (hb : Below w.heap.size w w') : Both Disk.code Jn base w' S g r gj d rs o :=
  ⟨h.journal.only (T := fun _ => False) (Only.of_below hb) fun _ _ h => h, Disk.code.later h.disk hb, h.apart⟩
theorem both_disked {r' : Option Nat} {d' : Ds} (h : Both Disk.code Jn base w S g r gj d rs o) (hd : Disk.code.Dk w' base g r' d') (ht : Turn w w' g r r') : Both Disk.code Jn base w' S g r' gj d' rs o :=
  ⟨h.journal.only ht.1 h.apart, hd, h.apart.next (Step.of_turn ht) fun i hi => (h.journal.foot i hi).2⟩
theorem step_turn {r' : Option Nat} (ht : Turn w w' g r r') : Step (S.or (pair g r)) (S.or (pair g r')) w w' :=
  ⟨ht.1.mono fun _ _ hk => Or.inr hk, fun k hk => hk.elim (fun h => Or.inl (Or.inl h)) fun h => ((Step.of_turn ht).grow k h).imp_left Or.inr⟩

theorem over_any (h : Jn w base S g gj rs o) : Calls Tryd.prog 11 #[at_ gj] w fun e w' => e = .returned (.bool o) ∧ w = w' := by
  have c0 := h.2.2.cell (j := 0) rfl
  unfold held at_ at *
  clear h
  cases o with
  | true =>
    simp only [if_true] at c0
    go_enter Tryd.func11, Tryd.ntmps11
    go_wp2_with fail
    go_returns
    exact ⟨rfl, rfl⟩
  | false =>
    simp only [Bool.false_eq_true, if_false] at c0
    go_enter Tryd.func11, Tryd.ntmps11
    go_wp2_with fail
    go_returns
    exact ⟨rfl, rfl⟩

/-- What the disk answered; the journal is over behind a 7. -/
theorem behind_any (e0 : Int) (h : Jn w base S g gj rs false) :
    Calls Tryd.prog 20 #[at_ gj, .int .i64 e0] w fun e w' => e = .returned (.int .i64 e0) ∧ Jn w' base S g gj rs (decide (e0 = 7)) ∧ Only S w w' := by
  have HJ := Lib.hid h
  have c0 := h.2.2.cell (j := 0) rfl
  have f0 := h.2.2.frozen (j := 0) (by simp)
  unfold held at_ at *
  clear h
  simp only [Bool.false_eq_true, if_false] at c0
  by_cases h7 : e0 = 7
  · subst h7
    go_enter Tryd.func20, Tryd.ntmps20
    go_wp2_with fail
    go_returns
    refine ⟨rfl, ⟨HJ.out.1, HJ.out.2.1, ?_⟩, (Only.of_set w ⟨gj, 0, none⟩ _).mono fun k _ hk => (HJ.out.2.1 k).2 hk⟩
    exact HJ.out.2.2.set_ 0 _
  · have HD := Lib.hid (decide_eq_false h7)
    go_enter Tryd.func20, Tryd.ntmps20
    go_wp2_with fail
    go_returns
    rw [HD.out]
    exact ⟨rfl, HJ.out, Only.refl _ _⟩

theorem room_any (h : Both Disk.code Jn base w S g r gj d rs false) (ho : d.Ok) (hd : d.down = false) :
    Calls Tryd.prog 19 #[at_ gj] w fun e w' => e = .returned (.int .i64 (d.size : Int)) ∧ w = w' := by
  have c0 := h.journal.2.2.cell (j := 0) rfl
  have HDN := Lib.hid (Disk.code.down h.disk ho)
  have HSZ := Lib.hid (Disk.code.size h.disk ho)
  rw [hd] at HDN
  unfold held at_ at *
  simp only [Bool.false_eq_true, if_false] at c0
  clear h ho hd
  go_enter Tryd.func19, Tryd.ntmps19
  go_wp2_with fail
  refine HDN.out.mono ?_
  rintro e w1 ⟨rfl, rfl⟩
  go_wp2_with fail
  refine HSZ.out.mono ?_
  rintro e w1 ⟨rfl, rfl⟩
  go_wp2_with fail
  go_returns
  exact ⟨rfl, rfl⟩
theorem len_any (h : Both Disk.code Jn base w S g r gj d rs false) (ho : d.Ok) :
    Calls Tryd.prog 23 #[at_ gj] w fun e w' => e = .returned (.int .i64 (d.b.length : Int)) ∧ w = w' := by
  have c0 := h.journal.2.2.cell (j := 0) rfl
  have HOV := Lib.hid (over_any h.journal)
  have HBY := Lib.hid (Disk.code.bytes h.disk ho)
  unfold held at_ at *
  simp only [Bool.false_eq_true, if_false] at c0
  clear h ho
  go_enter Tryd.func23, Tryd.ntmps23
  go_wp2_with fail
  refine HOV.out.mono ?_
  rintro e w1 ⟨rfl, rfl⟩
  go_wp2_with fail
  refine HBY.out.mono ?_
  rintro e w1 ⟨rfl, rfl⟩
  go_wp2_with fail
  go_returns
  exact ⟨by simp, rfl⟩

/-- What seal answers. -/
def sealR (ps : List (List UInt8)) (room : Nat) : Value :=
  if ps.any (fun p => decide (4096 < p.length)) then .tuple #[.string ⟨#[]⟩, .int .i64 5] else if room < (frs ps).length then .tuple #[.string ⟨#[]⟩, .int .i64 6] else .tuple #[.string ⟨(frs ps).toArray⟩, .int .i64 0]
theorem frs_take_succ (ss : List ByteArray) (k : Nat) (h : k < ss.length) : frs (bytesOf (ss.take (k + 1))) = frs (bytesOf (ss.take k)) ++ frm ss[k].data.toList := by
  rw [List.take_succ_eq_append_getElem h]
  unfold bytesOf
  rw [List.map_append, frs_append]
  show _ ++ frs [_] = _
  rw [frs_cons]
  show _ ++ (_ ++ []) = _
  rw [List.append_nil]
theorem frs_take_le (ss : List ByteArray) (k : Nat) : (frs (bytesOf (ss.take k))).length ≤ (frs (bytesOf ss)).length := by
  have e : bytesOf ss = bytesOf (ss.take k) ++ bytesOf (ss.drop k) := by unfold bytesOf; rw [← List.map_append, List.take_append_drop]
  rw [e, frs_append, List.length_append]
  omega
theorem any_at (ss : List ByteArray) (k : Nat) (h : k < ss.length) (hg : 4096 < ss[k].size) : (bytesOf ss).any (fun p => decide (4096 < p.length)) = true := by
  rw [List.any_eq_true]
  exact ⟨_, List.mem_map.2 ⟨_, List.getElem_mem h, rfl⟩, decide_eq_true (by rw [toList_size]; exact hg)⟩
theorem any_none (ss : List ByteArray) (h : ∀ k (hk : k < ss.length), ss[k].size ≤ 4096) : (bytesOf ss).any (fun p => decide (4096 < p.length)) = false := by
  rw [fits_any]
  intro p hp
  obtain ⟨s, hs, rfl⟩ := List.mem_map.1 hp
  obtain ⟨i, hi, rfl⟩ := List.getElem_of_mem hs
  rw [toList_size]
  exact h i hi

set_option maxHeartbeats 1000000 in
theorem seal_any (A : Option Addr) (ss : List ByteArray) (c : Nat) (room : Nat) (w : World) (hs : Strs w A ss) (hn : ss.length ≤ 1000) (hr : room ≤ 1048576) (hT : Tab w) :
    Calls Tryd.prog 18 #[.slice A ss.length c, .int .i64 (room : Int)] w fun e w' => e = .returned (sealR (bytesOf ss) room) ∧ Below w.heap.size w w' := by
  have HS := Lib.hid hs
  have HT := Lib.hid hT
  have HL := Lib.hid (frs_bytesOf ss)
  clear hs hT
  go_enter Tryd.func18, Tryd.ntmps18
  go_wp2_with fail
  go_loopw [15] (fun y wr => ∃ k : Nat, k ≤ ss.length ∧ y = .int .i64 k ∧ (∀ i (hi : i < ss.length), i < k → ss[i].size ≤ 4096) ∧ Below w.heap.size w wr) (fun y _ => ss.length - (intOf y).toNat)
  case atStart => exact ⟨0, Nat.zero_le _, rfl, fun i _ h => absurd h (by omega), Below.refl _ _⟩
  case round =>
    obtain ⟨k, hk, rfl, hall, hb⟩ := hrel
    have HB := Lib.hid hb
    have HA := Lib.hid hall
    clear hb hall
    by_cases hlt : k < ss.length
    · obtain ⟨ad, rfl, hc, hz⟩ := HS.out.later HB.out k hlt
      have hat := fun hg => any_at ss k hlt hg
      have HNX := Lib.hid (fun (hg : ss[k].size ≤ 4096) i (hi : i < ss.length) (hik : i < k + 1) => (show ss[i].size ≤ 4096 by
        by_cases e : i = k
        · subst e; exact hg
        · exact HA.out i hi (by omega)))
      generalize ss[k] = s at hc hz hat HNX
      by_cases hg : 4096 < s.size
      · have HE := Lib.hid (show sealR (bytesOf ss) room = _ from if_pos (hat hg))
        clear hat
        go_wp2_with fail
        go_returns
        rw [HE.out]
        exact ⟨rfl, HB.out⟩
      · have HN := Lib.hid (HNX.out (by omega))
        clear hat HNX
        go_wp2_with fail
        go_roundw
        case rel => exact ⟨k + 1, by omega, by go_num, HN.out, HB.out⟩
        case measure => simp [intOf]; omega
    · have HNO := Lib.hid (any_none ss fun i hi => HA.out i hi (by omega))
      have hb0 : Below wr.heap.size wr (wr.alloc (.cells #[.pointer none, .slice none 0 0] 60)) := below_alloc _ _
      have HB0 := Lib.hid (HB.out.trans (hb0.mono HB.out.size))
      have HW0 := Lib.hid (bld_new wr)
      clear hb0 HA
      obtain ⟨w1, rfl⟩ : ∃ x, x = wr := ⟨_, rfl⟩
      have HSZ := Lib.hid HB.out.size
      go_wp2_with fail
      go_loopw [25] (fun y wr => ∃ k : Nat, k ≤ ss.length ∧ y = .int .i64 k ∧ Bld wr w1.heap.size w1.heap.size (frs (bytesOf (ss.take k))) ∧ (frs (bytesOf (ss.take k))).length ≤ room ∧ Below w.heap.size w wr) (fun y _ => ss.length - (intOf y).toNat)
      case atStart => exact ⟨0, Nat.zero_le _, rfl, HW0.out, Nat.zero_le _, HB0.out⟩
      case round =>
        obtain ⟨k, hk, rfl, hbd, hle, hb⟩ := hrel
        have HBD := Lib.hid hbd
        have HB2 := Lib.hid hb
        clear hbd hb
        by_cases hlt : k < ss.length
        · obtain ⟨ad, rfl, hc, hz⟩ := HS.out.later HB2.out k hlt
          have HTS := Lib.hid (frs_take_succ ss k hlt)
          have hno : ¬ 4096 < ss[k].size := fun hg => by
            have := any_at ss k hlt hg
            rw [HNO.out] at this
            cases this
          have HTL := Lib.hid (frs_take_le ss (k + 1))
          generalize ss[k] = s at hc hz hno HTS
          have HSE : Hid (∀ w2, Below w.heap.size w w2 → Calls Tryd.prog 28 #[.slice (some ⟨w2.heap.size, 0, none⟩) 1 1] (w2.alloc (.cells #[.string s] 9)) fun e w' => e = .returned (.tuple #[.string ⟨(frm s.data.toList).toArray⟩, .int .i64 0]) ∧ Below w2.heap.size w2 w') := Lib.hid fun w2 hb2 => by
            have h1 := Frame.code.seals (some ⟨w2.heap.size, 0, none⟩) [s] 1 (w2.alloc (.cells #[.string s] 9)) (strs_one w2 s _ hz) (by simp) (by rw [cat_one, toList_size]; omega) ⟨(fun h => by cases h), Nat.le_refl _⟩ ((HT.out.later hb2).later (below_alloc _ _))
            refine h1.mono ?_
            rintro e w' ⟨rfl, hbw⟩
            refine ⟨?_, (below_alloc w2 _).trans (hbw.mono (by rw [World.size_alloc]; omega))⟩
            rw [cat_one]
            unfold sealE
            rw [if_neg (by rw [toList_size]; exact hno)]
          have hfl : (⟨(frm s.data.toList).toArray⟩ : ByteArray).size = 6 + s.size := by
            show (frm s.data.toList).toArray.size = _
            rw [List.size_toArray, frm_length, toList_size]
          have HFD := Lib.hid (show (⟨(frm s.data.toList).toArray⟩ : ByteArray).data.toList = frm s.data.toList from rfl)
          generalize (⟨(frm s.data.toList).toArray⟩ : ByteArray) = F at HSE hfl HFD
          rw [← HFD.out] at HTS
          have htl := congrArg List.length HTS.out
          rw [List.length_append, toList_size] at htl
          generalize hx : (frs (bytesOf (ss.take k))).length = x at *
          by_cases hfit : x + F.size ≤ room
          · go_wp2_with fail
            refine (HSE.out _ HB2.out).mono ?_
            rintro e w3 ⟨rfl, hb3⟩
            have HBD3 := Lib.hid (HBD.out.only hb3)
            have HB3 := Lib.hid (HB2.out.trans (hb3.mono HB2.out.size))
            clear hb3
            go_wp2_with fail
            refine (bld_len HBD3.out).mono ?_
            rw [hx]
            rintro e w4 ⟨rfl, rfl⟩
            go_wp2_with fail
            refine (bld_write F HBD3.out (by rw [hx]; omega)).mono ?_
            rintro e w5 ⟨rfl, hbd5, hb5⟩
            rw [← HTS.out] at hbd5
            have HBD5 := Lib.hid hbd5
            have HB5 := Lib.hid (HB3.out.trans (hb5.mono HSZ.out))
            clear hbd5 hb5
            go_wp2_with fail
            go_roundw
            case rel => exact ⟨k + 1, by omega, by go_num, HBD5.out, by rw [htl]; exact hfit, HB5.out⟩
            case measure => simp [intOf]; omega
          · have HE := Lib.hid (show sealR (bytesOf ss) room = .tuple #[.string ⟨#[]⟩, .int .i64 6] by
              unfold sealR
              rw [HNO.out, if_neg (by simp), if_pos (by have := HTL.out; omega)])
            go_wp2_with fail
            refine (HSE.out _ HB2.out).mono ?_
            rintro e w3 ⟨rfl, hb3⟩
            have HBD3 := Lib.hid (HBD.out.only hb3)
            have HB3 := Lib.hid (HB2.out.trans (hb3.mono HB2.out.size))
            clear hb3
            go_wp2_with fail
            refine (bld_len HBD3.out).mono ?_
            rw [hx]
            rintro e w4 ⟨rfl, rfl⟩
            go_wp2_with fail
            go_returns
            rw [HE.out]
            exact ⟨rfl, HB3.out⟩
        · have hall : ss.take k = ss := List.take_of_length_le (by omega)
          rw [hall] at HBD hle
          have HE := Lib.hid (show sealR (bytesOf ss) room = .tuple #[.string ⟨(frs (bytesOf ss)).toArray⟩, .int .i64 0] by
            unfold sealR
            rw [HNO.out, if_neg (by simp), if_neg (by omega)])
          clear hall
          go_wp2_with fail
          refine (bld_text HBD.out).mono ?_
          rintro e w5 ⟨rfl, hb5⟩
          have HB5 := Lib.hid (HB2.out.trans (hb5.mono HSZ.out))
          clear hb5
          go_wp2_with fail
          go_returns
          rw [HE.out]
          exact ⟨rfl, HB5.out⟩

/-- Behind the journal's own turning. -/
theorem both_behind {o' : Bool} (h : Both Disk.code Jn base w S g r gj d rs o) (hj : Jn w' base S g gj rs o') (ho : Only S w w') : Both Disk.code Jn base w' S g r gj d rs o' ∧ Step (S.or (pair g r)) (S.or (pair g r)) w w' :=
  ⟨⟨hj, Disk.code.only h.disk ho (fun hs => h.apart g hs (Or.inl rfl)) fun k hk hs => h.apart k hs (Or.inr hk.symm), h.apart⟩, ho.mono fun _ _ hk => Or.inl hk, fun _ hk => Or.inl hk⟩
theorem appJ_up {force : Bool} {ps : List (List UInt8)} (h : ps.any (fun p => decide (4096 < p.length)) = false) : appJ d force ps = if (appendS d (frs ps)).1 = 0 ∧ force = true then syncS (appendS d (frs ps)).2 else appendS d (frs ps) := by
  unfold appJ
  rw [h, if_neg (by simp)]

theorem appendS_nil {d : Ds} (ho : d.Ok) (hd : d.down = false) : appendS d (frs []) = (0, d) := by
  have hf := ho.fits
  obtain ⟨b, sf, n, f, dn⟩ := d
  simp only at hd hf
  subst hd
  have e : frs [] = [] := rfl
  have hl : left f 0 = 0 := Nat.le_zero.1 (left_le f 0)
  unfold appendS
  rw [e]
  simp only [List.length_nil, Nat.add_zero, List.take_nil, List.append_nil, hl, spend_zero, Nat.lt_irrefl, if_false, decide_false]
  rw [if_neg (by decide), if_neg (by omega)]
set_option maxHeartbeats 1000000 in
theorem append_any (force : Bool) (A : Option Addr) (ss : List ByteArray) (c : Nat) (h : Both Disk.code Jn base w S g r gj d rs false) (ho : d.Ok) (hd : d.down = false) (hT : Tab w) (hs : Strs w A ss) (hn : ss.length ≤ 1000) (hl : (cat ss).length ≤ 100000) (rs' : Int → List (List UInt8)) :
    Calls Tryd.prog 8 #[at_ gj, .bool force, .slice A ss.length c] w fun e w' => e = .returned (.int .i64 (appJ d force (bytesOf ss)).1) ∧ ∃ S' r', Both Disk.code Jn base w' S' g r' gj (appJ d force (bytesOf ss)).2 (rs' (appJ d force (bytesOf ss)).1) (decide ((appJ d force (bytesOf ss)).1 = 7)) ∧
      Step (S.or (pair g r)) (S'.or (pair g r')) w w' := by
  have HOV := Lib.hid (over_any h.journal)
  have HRM := Lib.hid (room_any h ho hd)
  have HSE := Lib.hid (seal_any A ss c d.size w hs hn ho.size hT)
  have HH := Lib.hid h
  have HO := Lib.hid ho
  have hfl := frs_bytesOf ss
  cases ha : (bytesOf ss).any (fun p => decide (4096 < p.length)) with
  | true =>
    have HV := Lib.hid (show appJ d force (bytesOf ss) = (5, d) by unfold appJ; rw [if_pos ha])
    have hse : sealR (bytesOf ss) d.size = .tuple #[.string ⟨#[]⟩, .int .i64 5] := by unfold sealR; rw [if_pos ha]
    rw [hse] at HSE
    clear h ho hs hT ha hse hfl
    unfold at_ at *
    go_enter Tryd.func8, Tryd.ntmps8
    go_wp2_with fail
    refine HOV.out.mono ?_
    rintro e w1 ⟨rfl, rfl⟩
    go_wp2_with fail
    refine HRM.out.mono ?_
    rintro e w1 ⟨rfl, rfl⟩
    go_wp2_with fail
    refine HSE.out.mono ?_
    rintro e w1 ⟨rfl, hb1⟩
    have HB1 := Lib.hid hb1
    clear hb1
    go_wp2_with fail
    go_returns
    rw [HV.out]
    exact ⟨rfl, S, r, both_any (both_later HH.out HB1.out) _, Step.below _ HB1.out⟩
  | false =>
    have hup := appJ_up (d := d) (force := force) ha
    by_cases hroom : d.size < (frs (bytesOf ss)).length
    · have hse : sealR (bytesOf ss) d.size = .tuple #[.string ⟨#[]⟩, .int .i64 6] := by unfold sealR; rw [ha, if_neg (by simp), if_pos hroom]
      rw [hse] at HSE
      have hx : appendS d (frs (bytesOf ss)) = (6, d) := by unfold appendS; rw [if_neg (by rw [hd]; simp), if_pos (by omega)]
      rw [hx] at hup
      have HV := Lib.hid (show appJ d force (bytesOf ss) = (6, d) by rw [hup]; exact if_neg (fun h => by cases h.1))
      clear h ho hs hT ha hse hfl hup hx hroom
      unfold at_ at *
      go_enter Tryd.func8, Tryd.ntmps8
      go_wp2_with fail
      refine HOV.out.mono ?_
      rintro e w1 ⟨rfl, rfl⟩
      go_wp2_with fail
      refine HRM.out.mono ?_
      rintro e w1 ⟨rfl, rfl⟩
      go_wp2_with fail
      refine HSE.out.mono ?_
      rintro e w1 ⟨rfl, hb1⟩
      have HB1 := Lib.hid hb1
      clear hb1
      go_wp2_with fail
      go_returns
      rw [HV.out]
      exact ⟨rfl, S, r, both_any (both_later HH.out HB1.out) _, Step.below _ HB1.out⟩
    · have hse : sealR (bytesOf ss) d.size = .tuple #[.string ⟨(frs (bytesOf ss)).toArray⟩, .int .i64 0] := by unfold sealR; rw [ha, if_neg (by simp), if_neg hroom]
      rw [hse] at HSE
      by_cases hnil : ss.length = 0
      · have hb0 : bytesOf ss = [] := by rw [List.length_eq_zero_iff.1 hnil]; rfl
        have hx : appendS d (frs (bytesOf ss)) = (0, d) := by rw [hb0]; exact appendS_nil ho hd
        rw [hx] at hup
        have HUP := Lib.hid hup
        have HNIL := Lib.hid hnil
        generalize (⟨(frs (bytesOf ss)).toArray⟩ : ByteArray) = F at HSE
        clear h ho hs hT ha hse hup hx hroom hb0 hfl hl hnil
        unfold at_ at *
        go_enter Tryd.func8, Tryd.ntmps8
        go_wp2_with fail
        refine HOV.out.mono ?_
        rintro e w1 ⟨rfl, rfl⟩
        go_wp2_with fail
        refine HRM.out.mono ?_
        rintro e w1 ⟨rfl, rfl⟩
        go_wp2_with fail
        refine HSE.out.mono ?_
        rintro e w1 ⟨rfl, hb1⟩
        have HH1 := Lib.hid (both_later HH.out hb1)
        have HST1 := Lib.hid (Step.below (S.or (pair g r)) hb1)
        have hnil := HNIL.out
        clear hb1
        cases force with
        | false =>
          have HV := Lib.hid (show appJ d false (bytesOf ss) = (0, d) by rw [HUP.out]; exact if_neg (fun h => by cases h.2))
          go_wp2_with fail
          go_returns
          rw [HV.out]
          exact ⟨rfl, S, r, both_any HH1.out _, HST1.out⟩
        | true =>
          have HV := Lib.hid (show appJ d true (bytesOf ss) = syncS d by rw [HUP.out]; exact if_pos (by simp))
          have c0 : w1.cell? ⟨gj, 0, none⟩ = some (.pointer (some ⟨g, 0, none⟩)) := HH1.out.journal.2.2.cell (j := 0) rfl
          go_wp2_with fail
          refine (Disk.code.sync HH1.out.disk HO.out).mono ?_
          rintro e w4 ⟨rfl, r4, hd4, ht4⟩
          have HH4 := Lib.hid (both_disked HH1.out hd4 ht4)
          have HST4 := Lib.hid (HST1.out.trans (step_turn (S := S) ht4))
          clear hd4 ht4 c0
          generalize syncS d = y at HV HH4 ⊢
          obtain ⟨e4, d4⟩ := y
          dsimp only at HH4 ⊢
          go_wp2_with fail
          refine (behind_any e4 HH4.out.journal).mono ?_
          rintro e w5 ⟨rfl, hj5, ho5⟩
          obtain ⟨hh5, hs5⟩ := both_behind HH4.out hj5 ho5
          have HST5 := Lib.hid (HST4.out.trans hs5)
          have HH5 := Lib.hid hh5
          clear hj5 ho5 hh5 hs5
          go_wp2_with fail
          go_returns
          rw [HV.out]
          exact ⟨rfl, S, r4, both_any HH5.out _, HST5.out⟩
      have hpos : 0 < ss.length := by omega
      have hFl : (⟨(frs (bytesOf ss)).toArray⟩ : ByteArray).size ≤ 140737488355328 := by
        show (frs (bytesOf ss)).toArray.size ≤ _
        rw [List.size_toArray]; omega
      have hFc : cat [(⟨(frs (bytesOf ss)).toArray⟩ : ByteArray)] = frs (bytesOf ss) := by rw [cat_one]
      have hFx : (frs (bytesOf ss)).length ≤ 100000000 := by omega
      have HUP := Lib.hid hup
      have hok1 := appendS_ok ho (frs (bytesOf ss))
      have h01 : (appendS d (frs (bytesOf ss))).1 = 7 ∨ (appendS d (frs (bytesOf ss))).1 = 6 ∨ (appendS d (frs (bytesOf ss))).1 = 0 := by
        unfold appendS
        rw [if_neg (by rw [hd]; simp)]
        split
        · exact Or.inr (Or.inl rfl)
        · dsimp only
          split
          · exact Or.inl rfl
          · exact Or.inr (Or.inr rfl)
      have HAP : Hid (∀ (w2 : World) (r : Option Nat), Disk.code.Dk w2 base g r d → Calls Tryd.prog 21 #[at_ g, .slice (some ⟨w2.heap.size, 0, none⟩) 1 1] (w2.alloc (.cells #[.string ⟨(frs (bytesOf ss)).toArray⟩] 9)) fun e w' => e = .returned (.int .i64 (appendS d (frs (bytesOf ss))).1) ∧ ∃ r', Disk.code.Dk w' base g r' (appendS d (frs (bytesOf ss))).2 ∧ Turn w2 w' g r r') := Lib.hid fun w2 r hd2 => by
        have h1 := Disk.code.append (some ⟨w2.heap.size, 0, none⟩) [⟨(frs (bytesOf ss)).toArray⟩] 1 (Disk.code.later hd2 (below_alloc w2 (.cells #[.string ⟨(frs (bytesOf ss)).toArray⟩] 9))) HO.out (strs_one w2 _ _ hFl) (by simp) (by rw [hFc]; exact hFx) ⟨(fun h => by cases h), Nat.le_refl _⟩
        rw [hFc] at h1
        refine h1.mono ?_
        rintro e w' ⟨rfl, r', h2, h3⟩
        exact ⟨rfl, r', h2, Turn.before (below_alloc w2 _) h3⟩
      generalize (⟨(frs (bytesOf ss)).toArray⟩ : ByteArray) = F at HSE HAP
      generalize appendS d (frs (bytesOf ss)) = x at *
      obtain ⟨e1, d1⟩ := x
      dsimp only at *
      clear h ho hs hT ha hse hfl hup hroom hFl hFc hFx
      unfold at_ at *
      go_enter Tryd.func8, Tryd.ntmps8
      go_wp2_with fail
      refine HOV.out.mono ?_
      rintro e w1 ⟨rfl, rfl⟩
      go_wp2_with fail
      refine HRM.out.mono ?_
      rintro e w1 ⟨rfl, rfl⟩
      go_wp2_with fail
      refine HSE.out.mono ?_
      rintro e w1 ⟨rfl, hb1⟩
      have HH1 := Lib.hid (both_later HH.out hb1)
      have HST1 := Lib.hid (Step.below (S.or (pair g r)) hb1)
      have c0 : w1.cell? ⟨gj, 0, none⟩ = some (.pointer (some ⟨g, 0, none⟩)) := HH1.out.journal.2.2.cell (j := 0) rfl
      clear hb1
      go_wp2_with fail
      refine (HAP.out w1 r HH1.out.disk).mono ?_
      rintro e w2 ⟨rfl, r2, hd2, ht2⟩
      have HH2 := Lib.hid (both_disked HH1.out hd2 ht2)
      have HST2 := Lib.hid (HST1.out.trans (step_turn (S := S) ht2))
      clear hd2 ht2 c0
      go_wp2_with fail
      refine (behind_any e1 HH2.out.journal).mono ?_
      rintro e w3 ⟨rfl, hj3, ho3⟩
      obtain ⟨hh3, hs3⟩ := both_behind HH2.out hj3 ho3
      have HST3 := Lib.hid (HST2.out.trans hs3)
      have HH3 := Lib.hid hh3
      clear hj3 ho3 hh3 hs3
      by_cases h0 : e1 = 0
      · subst h0
        rw [decide_eq_false (show ¬ (0 : Int) = 7 by decide)] at HH3
        cases force with
        | false =>
          have HV := Lib.hid (show appJ d false (bytesOf ss) = (0, d1) by rw [HUP.out]; exact if_neg (fun h => by cases h.2))
          go_wp2_with fail
          go_returns
          rw [HV.out]
          exact ⟨rfl, S, r2, both_any HH3.out _, HST3.out⟩
        | true =>
          have HV := Lib.hid (show appJ d true (bytesOf ss) = syncS d1 by rw [HUP.out]; exact if_pos ⟨rfl, rfl⟩)
          have c0 : w3.cell? ⟨gj, 0, none⟩ = some (.pointer (some ⟨g, 0, none⟩)) := HH3.out.journal.2.2.cell (j := 0) rfl
          go_wp2_with fail
          refine (Disk.code.sync HH3.out.disk hok1).mono ?_
          rintro e w4 ⟨rfl, r4, hd4, ht4⟩
          have HH4 := Lib.hid (both_disked HH3.out hd4 ht4)
          have HST4 := Lib.hid (HST3.out.trans (step_turn (S := S) ht4))
          clear hd4 ht4 c0
          generalize syncS d1 = y at HV HH4 ⊢
          obtain ⟨e4, d4⟩ := y
          dsimp only at HH4 ⊢
          go_wp2_with fail
          refine (behind_any e4 HH4.out.journal).mono ?_
          rintro e w5 ⟨rfl, hj5, ho5⟩
          obtain ⟨hh5, hs5⟩ := both_behind HH4.out hj5 ho5
          have HST5 := Lib.hid (HST4.out.trans hs5)
          have HH5 := Lib.hid hh5
          clear hj5 ho5 hh5 hs5
          go_wp2_with fail
          go_returns
          rw [HV.out]
          exact ⟨rfl, S, r4, both_any HH5.out _, HST5.out⟩
      · have HV := Lib.hid (show appJ d force (bytesOf ss) = (e1, d1) by rw [HUP.out]; exact if_neg (fun h => h0 h.1))
        have HN : (e1 != 0) = true := by simpa using h0
        clear h0
        go_wp2_with fail
        go_returns
        rw [HV.out]
        exact ⟨rfl, S, r2, both_any HH3.out _, HST3.out⟩

set_option maxHeartbeats 1000000 in
theorem renew_any (A : Option Addr) (ss : List ByteArray) (c : Nat) (h : Both Disk.code Jn base w S g r gj d rs false) (ho : d.Ok) (hd : d.down = false) (hT : Tab w) (hs : Strs w A ss) (hn : ss.length ≤ 1000) (hl : (cat ss).length ≤ 100000) (rs' : Int → List (List UInt8)) :
    Calls Tryd.prog 9 #[at_ gj, .slice A ss.length c] w fun e w' => e = .returned (.int .i64 (renJ d (bytesOf ss)).1) ∧ ∃ S' r', Both Disk.code Jn base w' S' g r' gj (renJ d (bytesOf ss)).2 (rs' (renJ d (bytesOf ss)).1) (decide ((renJ d (bytesOf ss)).1 = 7)) ∧
      Step (S.or (pair g r)) (S'.or (pair g r')) w w' := by
  have HLN := Lib.hid (len_any h ho)
  have HAP := Lib.hid (append_any true A ss c h ho hd hT hs hn hl fun _ => [])
  have hok1 : (appJ d true (bytesOf ss)).2.Ok := by
    unfold appJ
    split
    · exact ho
    · split
      · exact syncS_ok (appendS_ok ho _)
      · exact appendS_ok ho _
  have hv : renJ d (bytesOf ss) = if (appJ d true (bytesOf ss)).1 = 0 then dropS (appJ d true (bytesOf ss)).2 d.b.length else appJ d true (bytesOf ss) := rfl
  generalize appJ d true (bytesOf ss) = x at *
  obtain ⟨e1, d1⟩ := x
  dsimp only at *
  have HV := Lib.hid hv
  clear h ho hd hT hs hv
  unfold at_ at *
  go_enter Tryd.func9, Tryd.ntmps9
  go_wp2_with fail
  refine HLN.out.mono ?_
  rintro e w1 ⟨rfl, rfl⟩
  go_wp2_with fail
  refine HAP.out.mono ?_
  rintro e w1 ⟨rfl, S1, r1, hh1, hs1⟩
  have HH1 := Lib.hid hh1
  have HST1 := Lib.hid hs1
  clear hh1 hs1
  by_cases h0 : e1 = 0
  · subst h0
    rw [decide_eq_false (show ¬ (0 : Int) = 7 by decide)] at HH1
    rw [if_pos rfl] at HV
    have c0 : w1.cell? ⟨gj, 0, none⟩ = some (.pointer (some ⟨g, 0, none⟩)) := HH1.out.journal.2.2.cell (j := 0) rfl
    go_wp2_with fail
    refine (Disk.code.drop (d.b.length : Int) HH1.out.disk hok1).mono ?_
    rintro e w2 ⟨rfl, r2, hd2, ht2⟩
    have HH2 := Lib.hid (both_disked HH1.out hd2 ht2)
    have HST2 := Lib.hid (HST1.out.trans (step_turn (S := S1) ht2))
    clear hd2 ht2 c0
    generalize dropS d1 (d.b.length : Int) = y at HV HH2 ⊢
    obtain ⟨e4, d4⟩ := y
    dsimp only at HH2 ⊢
    go_wp2_with fail
    refine (behind_any e4 HH2.out.journal).mono ?_
    rintro e w5 ⟨rfl, hj5, ho5⟩
    obtain ⟨hh5, hs5⟩ := both_behind HH2.out hj5 ho5
    have HST5 := Lib.hid (HST2.out.trans hs5)
    have HH5 := Lib.hid hh5
    clear hj5 ho5 hh5 hs5
    go_wp2_with fail
    go_returns
    rw [HV.out]
    exact ⟨rfl, S1, r2, both_any HH5.out _, HST5.out⟩
  · rw [if_neg h0] at HV
    have HN : (e1 != 0) = true := by simpa using h0
    clear h0
    go_wp2_with fail
    go_returns
    rw [HV.out]
    exact ⟨rfl, S1, r1, both_any HH1.out _, HST1.out⟩

set_option maxHeartbeats 1000000 in
theorem opens_any (h : Disk.code.Dk w base g r d) (ho : d.Ok) (hd : d.down = false) (hT : Tab w) :
    Calls Tryd.prog 7 #[at_ g] w fun e w' => ∃ gj S l r', e = .returned (.tuple #[at_ gj, l, .int .i64 0]) ∧ Both Disk.code Jn base w' S g r' gj (cutS d ((fr d.b).2 : Nat)).2 (fr d.b).1 false ∧ Txt w' w.heap.size l (texts (fr d.b).1) ∧
      Step (pair g r) (pair g r') w w' ∧ (∀ k, S k → w.heap.size ≤ k) ∧ Apart (rowFoot l) (S.or (pair g r')) := by
  have HBY := Lib.hid (Disk.code.bytes h ho)
  have HH := Lib.hid h
  have HT := Lib.hid hT
  have hfr := (fr_small d.b.length d.b (Nat.le_refl _)).2.2
  have hsz : (⟨d.b.toArray⟩ : ByteArray).size ≤ 2000000 := by
    show d.b.toArray.size ≤ _
    rw [List.size_toArray]
    have := ho.fits
    have := ho.size
    omega
  have HAL := Lib.hid (Frame.code.all ⟨d.b.toArray⟩ w hsz hT)
  have HCT : Hid (∀ (w2 : World), Disk.code.Dk w2 base g r d → Calls Tryd.prog 17 #[at_ g, .int .i64 ((fr d.b).2 : Nat)] w2 fun e w' => e = .returned (.int .i64 0) ∧ ∃ r', Disk.code.Dk w' base g r' (cutS d ((fr d.b).2 : Nat)).2 ∧ Turn w2 w' g r r') := Lib.hid fun w2 h2 => by
    have h3 := Disk.code.cut ((fr d.b).2 : Nat) h2 ho
    have e : (cutS d ((fr d.b).2 : Nat)).1 = 0 := by
      unfold cutS
      rw [if_neg (by rw [hd]; simp), if_neg (by omega)]
    rw [e] at h3
    exact h3
  have hlg := HH.out
  clear h ho hd hT
  have e0 : (⟨d.b.toArray⟩ : ByteArray).data.toList = d.b := rfl
  rw [e0] at HAL
  generalize (⟨d.b.toArray⟩ : ByteArray) = F at HBY HAL hsz
  clear hsz e0 hlg
  generalize (fr d.b).2 = n at *
  generalize (fr d.b).1 = ps at *
  generalize (cutS d (n : Nat)).2 = d2 at *
  unfold at_ at *
  go_enter Tryd.func7, Tryd.ntmps7
  go_wp2_with fail
  refine HBY.out.mono ?_
  rintro e w1 ⟨rfl, rfl⟩
  go_wp2_with fail
  refine HAL.out.mono ?_
  rintro e w1 ⟨l, rfl, ht1, hb1⟩
  have HT1 := Lib.hid ht1
  have HB1 := Lib.hid hb1
  have HD1 := Lib.hid (Disk.code.later HH.out hb1)
  obtain ⟨A1, n1, c1, rfl⟩ := Txt.slice ht1
  clear ht1 hb1
  go_wp2_with fail
  refine (HCT.out w1 HD1.out).mono ?_
  rintro e w2 ⟨rfl, r2, hd2, ht2⟩
  have HD2 := Lib.hid hd2
  have HTN := Lib.hid ht2
  clear hd2 ht2
  go_wp2_with fail
  go_returns
  have hlt := Disk.code.lt HH.out
  have hlt2 := Disk.code.lt HD2.out
  have hba := below_alloc w2 (.cells #[.pointer (some ⟨g, 0, none⟩)] 49)
  have hs1 := HB1.out.size
  have hs2 := HTN.out.1.size
  have hne : ∀ k, rowFoot (.slice A1 n1 c1) k → w.heap.size ≤ k ∧ k < w1.heap.size := fun k hk => HT1.out.lt k hk
  have hoff : ∀ k, w.heap.size ≤ k → k < w1.heap.size → ¬ (k = g ∨ some k = r) := by
    rintro k h1 h2 (rfl | h3)
    · have := hlt.1; omega
    · have := hlt.2 k h3.symm; omega
  refine ⟨w2.heap.size, (fun k => k = w2.heap.size), _, r2, rfl, ⟨⟨?_, fun k => Iff.rfl, cells_new w2 _ _ _ rfl⟩, Disk.code.later HD2.out hba, ?_⟩, ?_, ?_, ?_, ?_⟩
  · have := (Disk.code.own HD2.out).1; have := hlt2.1; omega
  · rintro k rfl (h1 | h1)
    · have := hlt2.1; omega
    · have := hlt2.2 _ h1.symm; omega
  · exact Txt.later (show Txt w2 w.heap.size (.slice A1 n1 c1) (texts ps) from row_only HT1.out HTN.out.1 fun k hk => hoff k (hne k hk).1 (hne k hk).2) hba
  · refine ((Step.below _ HB1.out).trans (Step.of_turn HTN.out)).trans (Step.below _ hba)
  · rintro k rfl; omega
  · rintro k hk (h1 | h1 | h1)
    · have := (hne k hk).2; subst h1; omega
    · exact hoff k (hne k hk).1 (hne k hk).2 (Or.inl h1)
    · rcases HTN.out.2 k h1.symm with h2 | h2
      · exact hoff k (hne k hk).1 (hne k hk).2 (Or.inr h2)
      · have := (hne k hk).2; omega

/-- The landed code does what is asked. -/
def code : Does Disk.code := {
  Jn := Jn
  foot := Jn.foot
  only := Jn.only
  opens := fun h ho hd hT => (opens_any h ho hd hT).mono fun _ _ ⟨gj, S, l, r', h⟩ => ⟨gj, l, S, r', h⟩
  append := fun {_ _ _ _ _ _ _ rs} force A ss c h ho hd _ _ hT hs hn hl _ => append_any force A ss c h ho hd hT hs hn hl fun x => then_ x rs (rs ++ bytesOf ss)
  renew := fun {_ _ _ _ _ _ _ rs} A ss c h ho hd _ _ hT hs hn hl _ => renew_any A ss c h ho hd hT hs hn hl fun x => then_ x rs (bytesOf ss)
  over := over_any
  }
end Go.Proofs.YtfdhckfpkhoheaaDoor.Journal
