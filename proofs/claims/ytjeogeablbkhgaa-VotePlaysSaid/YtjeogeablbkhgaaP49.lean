/-
  Layer 19: the document's Vote, Ack, Waits, Items.
  Conditions: none.
-/
import Derived.Test.YtjeogeablbkhgaaP47
import Derived.Test.YtjeogeablbkhgaaP48
namespace Go.Proofs.Ytjeogeablbkhgaa.Vot
set_option maxRecDepth 100000
open Go.RowKit Go.Deep Go.Proofs.Ytjeogeablbkhgaa.Mem Go.Proofs.Ytjeogeablbkhgaa.Item
/-- The first k parts are turned. -/
def midL (f : Sd → Sd) (k : Nat) (l : List Sd) : List Sd := (l.take k).map f ++ l.drop k
theorem mid_zero (f : Sd → Sd) (l : List Sd) : midL f 0 l = l := by simp [midL]
theorem mid_end {f : Sd → Sd} {l : List Sd} {k : Nat} (h : l.length ≤ k) : midL f k l = l.map f := by
 unfold midL
 rw [List.take_of_length_le h, List.drop_eq_nil_of_le h, List.append_nil]
theorem mid_len (f : Sd → Sd) (k : Nat) (l : List Sd) : (midL f k l).length = l.length := by
 unfold midL
 rw [List.length_append, List.length_map, List.length_take, List.length_drop]
 omega
theorem mid_at {f : Sd → Sd} {l : List Sd} {k : Nat} (hk : k < l.length) (hm : k < (midL f k l).length) : (midL f k l)[k] = l[k] := by
 have h1 : (midL f k l)[k]? = some l[k] := by
  unfold midL
  rw [List.getElem?_append_right (by rw [List.length_map, List.length_take]; omega), List.length_map, List.length_take, Nat.min_eq_left (Nat.le_of_lt hk), Nat.sub_self, List.getElem?_drop, Nat.add_zero, List.getElem?_eq_getElem hk]
 rw [List.getElem?_eq_getElem hm] at h1
 exact Option.some.inj h1
theorem mid_next {f : Sd → Sd} {l : List Sd} {k : Nat} (hk : k < l.length) : midL f (k + 1) l = (l.take k).map f ++ f l[k] :: l.drop (k + 1) := by
 unfold midL
 rw [List.take_succ_eq_append_getElem hk, List.map_append, List.append_assoc]
 rfl
theorem mid_set {f : Sd → Sd} {l : List Sd} {k : Nat} (hk : k < l.length) : (midL f k l).set k (f l[k]) = midL f (k + 1) l := by
 rw [mid_next hk]
 unfold midL
 rw [List.set_append_right _ _ (by rw [List.length_map, List.length_take]; omega), List.length_map, List.length_take, Nat.min_eq_left (Nat.le_of_lt hk), Nat.sub_self, ← List.getElem_cons_drop (h := hk), List.set_cons_zero]
theorem mid_same {f : Sd → Sd} {l : List Sd} {k : Nat} (hk : k < l.length) (h : f l[k] = l[k]) : midL f (k + 1) l = midL f k l := by
 rw [mid_next hk, h]
 unfold midL
 rw [List.getElem_cons_drop]
theorem mid_got {f : Sd → Sd} {l : List Sd} {k : Nat} (hk : k < l.length) (hm : k < (midL f (k + 1) l).length) : (midL f (k + 1) l)[k] = f l[k] := by
 have e := mid_next (f := f) hk
 have h1 : (midL f (k + 1) l)[k]? = some (f l[k]) := by
  rw [e, List.getElem?_append_right (by rw [List.length_map, List.length_take]; omega), List.length_map, List.length_take, Nat.min_eq_left (Nat.le_of_lt hk), Nat.sub_self]
  rfl
 rw [List.getElem?_eq_getElem hm] at h1
 exact Option.some.inj h1
section
variable {B T g c : Nat} {w w1 : World} {A : Option Addr} {t : Tid} {s : Int} {l : List Sd}
theorem has_take {n : Int} {k : Nat} {x : Sd} (h : l.take (k + 1) = l.take k ++ [x]) : hasN n (l.take (k + 1)) = (hasN n (l.take k) || decide (x.node = n)) := by
 unfold hasN
 rw [h, List.any_append, List.any_cons, List.any_nil, Bool.or_false]
/-- What a vote turns a part into; the state when k parts are gone through. -/
def vf (s n : Int) (y : Bool) : Sd → Sd := if s = 0 ∧ y = true then Sd.say n else id
def vs (s n : Int) (y : Bool) (l : List Sd) : Int := if s = 0 ∧ y = false ∧ hasN n l = true then 2 else s
theorem vf_map (s n : Int) (y : Bool) (l : List Sd) : l.map (vf s n y) = voteL s n y l := by
 unfold vf voteL sayL
 split
 ·rfl
 ·exact List.map_id l
theorem vs_end (s n : Int) (y : Bool) (l : List Sd) : (if vs s n y l = 0 ∧ allY (voteL s n y l) = true then (1 : Int) else vs s n y l) = voteS s n y l := by
 unfold vs voteS
 by_cases h0 : s = 0
 ·subst h0
  cases y with
  | true => simp
  | false =>
   cases hh : hasN n l with
   | true => simp
   | false => simp
 ·simp [h0]
set_option maxHeartbeats 2000000 in
theorem RVote_any (h : DAt B T w g A c t s l) (n : Int) (y : Bool) : Calls Try.prog 14 #[.pointer (some ⟨g, 0, none⟩), .int .i64 n, .bool y] w fun e w' =>
  e = .returned (.int .i64 (voteS s n y l)) ∧ DAt B T w' g A c t (voteS s n y l) (voteL s n y l) ∧ Only (foot g A) w w' := by
 have hl := h.len
 obtain ⟨m, hm⟩ : ∃ m, l.length = m := ⟨_, rfl⟩
 have HN := Lib.hid hm
 have hml : m ≤ 40 := by rw [← hm]; exact hl
 have HH := Lib.hid h
 obtain ⟨qs, hqs⟩ : ∃ q, voteS s n y l = q := ⟨_, rfl⟩
 have HE := Lib.hid (vs_end s n y l)
 rw [hqs] at HE ⊢
 clear h hl hm hqs
 go_enter Try.func14, Try.ntmps14
 go_wp2_with fail
 go_loopw [7, 8] (fun a i wr => ∃ k : Nat, k ≤ m ∧ i = .int .i64 (k : Int) ∧ a = .bool (allY ((l.take k).map (vf s n y))) ∧ Hid (DAt B T wr g A c t (vs s n y (l.take k)) (midL (vf s n y) k l)) ∧ Hid (Only (foot g A) w wr)) (fun _ i _ => m - (intOf i).toNat)
 case atStart => exact ⟨0, Nat.zero_le _, rfl, rfl, Lib.hid (by rw [mid_zero]; have e : vs s n y (l.take 0) = s := by { unfold vs hasN; simp }; rw [e]; exact HH.out), Lib.hid (Only.of_below (Below.refl _ _))⟩
 case round =>
  obtain ⟨k, hk, rfl, rfl, HA, HO⟩ := hrel
  have c3 := HA.out.box.cell (j := 3) rfl
  rw [mid_len, HN.out] at c3
  by_cases hlt : k < m
  ·have hkl : k < l.length := by rw [HN.out]; exact hlt
   have hkm : k < (midL (vf s n y) k l).length := by rw [mid_len]; exact hkl
   obtain ⟨p, rfl, hel⟩ := HA.out.elem hkm
   rw [mid_at hkl] at hel
   obtain ⟨x, hx⟩ : ∃ x, l[k] = x := ⟨_, rfl⟩
   have HTM := Lib.hid (take_more hkl hx)
   have HMS := Lib.hid (mid_set (f := vf s n y) hkl)
   have HSM := Lib.hid (mid_same (f := vf s n y) hkl)
   have HAM := Lib.hid (mid_at (f := vf s n y) hkl)
   have HMG := Lib.hid (mid_got (f := vf s n y) hkl)
   have HKL := Lib.hid hkl
   rw [hx] at hel HMS HSM HAM HMG
   have HHT := Lib.hid (has_take (n := n) HTM.out)
   have x0 : wr.cell? ⟨p, k * 4, none⟩ = _ := hel.cell (j := 0) rfl
   have c4 := HA.out.box.cell (j := 4) rfl
   have hpl := hel.lt
   obtain ⟨sk, hsk⟩ : ∃ z, vs s n y (l.take k) = z := ⟨_, rfl⟩
   rw [hsk] at c4 HA
   have HSK := Lib.hid hsk
   obtain ⟨ak, hak⟩ : ∃ z, allY ((l.take k).map (vf s n y)) = z := ⟨_, rfl⟩
   have HAK := Lib.hid hak
   rw [hak]
   obtain ⟨q1, hq1⟩ : ∃ q, decide (x.node = n) = q := ⟨_, rfl⟩
   obtain ⟨q2, hq2⟩ : ∃ q, decide (sk = 0) = q := ⟨_, rfl⟩
   have f1 : (x.node == n) = q1 := by rw [← hq1]; by_cases h : x.node = n <;> simp [h]
   have f2 : (sk == 0) = q2 := by rw [← hq2]; by_cases h : sk = 0 <;> simp [h]
   have HQ := Lib.hid (And.intro hq1 hq2)
   clear hkl hkm hx hel hsk hak hq1 hq2
   go_upto_region 5 with (fail)
   go_cut [34] from 18 to 33 (fun v wx => v = .bool (q1 && q2) ∧ wx = wr)
   case first =>
    cases q1 <;> cases q2
    all_goals
    ·go_wp2_with fail
     go_meet
     exact ⟨rfl, rfl⟩
   obtain ⟨rfl, hwr⟩ := hcut
   rw [hwr]
   clear hwr x0 f1 f2
   apply_assumption
   go_cut [] from 34 to 45 (fun wx => Hid (DAt B T wx g (some ⟨p, 0, none⟩) c t (vs s n y (l.take (k + 1))) (midL (vf s n y) (k + 1) l)) ∧ Hid (Only (foot g (some ⟨p, 0, none⟩)) w wx))
   case first =>
    by_cases hq : (q1 && q2) = true
    ·have hq1 : q1 = true := by cases q1 with | true => rfl | false => simp at hq
     have hq2 : q2 = true := by cases q2 with | true => rfl | false => simp at hq
     have hxn : x.node = n := of_decide_eq_true (HQ.out.1.trans hq1)
     have hs0 : sk = 0 := of_decide_eq_true (HQ.out.2.trans hq2)
     have hss : s = 0 := by
      have h1 := HSK.out
      unfold vs at h1
      split at h1
      ·omega
      ·rw [h1]; exact hs0
     rw [hq]
     clear hq
     cases y with
     | true =>
      have hvf : vf s n true x = x.setY := by
       unfold vf Sd.say
       rw [if_pos ⟨hss, rfl⟩, if_pos hxn]
      have hvs : vs s n true (l.take (k + 1)) = sk := by
       rw [← HSK.out]
       unfold vs
       simp
      have hkm : k < (midL (vf s n true) k l).length := by rw [mid_len]; exact HKL.out
      obtain ⟨hA3, ho3⟩ := HA.out.setY hkm
      rw [HAM.out hkm, ← hvf, HMS.out, ← hvs] at hA3
      obtain ⟨p2, hp2, hel⟩ := HA.out.elem hkm
      obtain rfl : p = p2 := by simpa using hp2
      have f2 := hel.frozen (j := 2) (by simp [Sd.vals])
      rw [HAM.out hkm] at hel
      have x2 := hel.cell (j := 2) rfl
      have HA3 := Lib.hid hA3
      have HO3 : Hid (Only (foot g (some ⟨p, 0, none⟩)) w (wr.setCell ⟨p, k * 4 + 2, none⟩ (.bool true))) := Lib.hid (HO.out.trans (ho3.mono (S' := foot g (some ⟨p, 0, none⟩)) fun i _ e => Or.inr (by rw [e]; rfl)) fun _ _ e => e)
      clear hkm hA3 ho3 hp2 hel hvf hvs hxn hs0 hss hq1 hq2
      go_wp2_with fail
      go_meet
      exact ⟨HA3, HO3⟩
     | false =>
      have hvf : vf s n false x = x := by
       unfold vf
       rw [if_neg fun e => by cases e.2]
       rfl
      have hvs : vs s n false (l.take (k + 1)) = 2 := by
       unfold vs
       rw [if_pos ⟨hss, rfl, by rw [HHT.out, decide_eq_true hxn, Bool.or_true]⟩]
      obtain ⟨hA3, ho3⟩ := HA.out.setZ (.int .i64 2)
      rw [← HSM.out hvf] at hA3
      have f4 := HA.out.box.frozen (j := 4) (by simp)
      have HA3 : Hid (DAt B T (wr.setCell ⟨g, 4, none⟩ (.int .i64 2)) g (some ⟨p, 0, none⟩) c t (vs s n false (l.take (k + 1))) (midL (vf s n false) (k + 1) l)) := Lib.hid (by rw [hvs]; exact hA3)
      have HO3 : Hid (Only (foot g (some ⟨p, 0, none⟩)) w (wr.setCell ⟨g, 4, none⟩ (.int .i64 2))) := Lib.hid (HO.out.trans (ho3.mono (S' := foot g (some ⟨p, 0, none⟩)) fun i _ e => Or.inl e) fun _ _ e => e)
      clear hA3 ho3 hvf hvs hxn hs0 hss hq1 hq2
      go_wp2_with fail
      go_meet
      exact ⟨HA3, HO3⟩
    ·have hqf : (q1 && q2) = false := by simpa using hq
     have hvf : vf s n y x = x := by
      unfold vf
      split
      ·rename_i e
       unfold Sd.say
       rw [if_neg fun hxn => hq ?_]
       have hs2 : sk = 0 := by
        rw [← HSK.out]
        unfold vs
        rw [if_neg fun e2 => by rw [e.2] at e2; cases e2.2.1]
        exact e.1
       rw [← HQ.out.1, ← HQ.out.2, decide_eq_true hxn, decide_eq_true hs2]
       rfl
      ·rfl
     have hvs : vs s n y (l.take (k + 1)) = sk := by
      rw [← HSK.out]
      have h1 := HSK.out
      unfold vs at h1 ⊢
      rw [HHT.out]
      by_cases hxn : x.node = n
      ·have hsk0 : sk ≠ 0 := fun e => hq (by rw [← HQ.out.1, ← HQ.out.2, decide_eq_true hxn, decide_eq_true e]; rfl)
       by_cases hc : s = 0 ∧ y = false
       ·have hh : hasN n (l.take k) = true := by
         cases hh : hasN n (l.take k) with
         | true => rfl
         | false =>
          rw [if_neg fun e => by rw [hh] at e; cases e.2.2] at h1
          exact absurd (h1.symm.trans hc.1) hsk0
        rw [hh, decide_eq_true hxn]
        rfl
       ·rw [if_neg fun e => hc ⟨e.1, e.2.1⟩, if_neg fun e => hc ⟨e.1, e.2.1⟩]
      ·rw [decide_eq_false hxn, Bool.or_false]
     rw [hqf]
     have HA3 : Hid (DAt B T wr g (some ⟨p, 0, none⟩) c t (vs s n y (l.take (k + 1))) (midL (vf s n y) (k + 1) l)) := Lib.hid (by rw [hvs, HSM.out hvf]; exact HA.out)
     clear hq hqf hvf hvs
     go_wp2_with fail
     go_meet
     exact ⟨HA3, HO⟩
   obtain ⟨HA4, HO4⟩ := hcut
   clear c3 c4 HA HO HSK HMS HSM HAM HHT HQ
   apply_assumption
   have hkm : k < (midL (vf s n y) (k + 1) l).length := by rw [mid_len]; exact HKL.out
   obtain ⟨p2, hp2, hel⟩ := HA4.out.elem hkm
   obtain rfl : p = p2 := by simpa using hp2
   rw [HMG.out hkm] at hel
   have x2 := hel.cell (j := 2) rfl
   have c3 := HA4.out.box.cell (j := 3) rfl
   rw [mid_len, HN.out] at c3
   have HAL : Hid (allY ((l.take (k + 1)).map (vf s n y)) = (ak && (vf s n y x).yes)) := Lib.hid (by
    rw [← HAK.out, HTM.out, List.map_append]
    unfold allY
    rw [List.all_append]
    simp)
   obtain ⟨xy, hxy⟩ : ∃ z, (vf s n y x).yes = z := ⟨_, rfl⟩
   rw [hxy] at x2 HAL
   clear hkm hp2 hel hxy
   cases ak
   all_goals
   ·go_wp2_with fail
    go_roundw
    case rel => exact ⟨k + 1, by omega, by go_num, by rw [HAL.out]; rfl, HA4, HO4⟩
    case measure => simp [intOf]; omega
  ·obtain rfl : k = m := by omega
   have htk : l.take k = l := List.take_of_length_le (Nat.le_of_eq HN.out)
   have HAF : Hid (DAt B T wr g A c t (vs s n y l) (voteL s n y l)) := Lib.hid (by have h1 := HA.out; rwa [mid_end (Nat.le_of_eq HN.out), htk, vf_map] at h1)
   have c4 := HAF.out.box.cell (j := 4) rfl
   obtain ⟨sk, hsk⟩ : ∃ z, vs s n y l = z := ⟨_, rfl⟩
   rw [htk, vf_map]
   obtain ⟨ak, hak⟩ : ∃ z, allY (voteL s n y l) = z := ⟨_, rfl⟩
   rw [hsk] at HAF c4 HE
   rw [hak] at HE ⊢
   clear htk hsk hak HA
   by_cases hs0 : sk = 0
   ·have f1 : (sk == 0) = true := by simp [hs0]
    cases ak with
    | true =>
     have HQS : Hid (qs = 1) := Lib.hid (by rw [← HE.out, if_pos ⟨hs0, rfl⟩])
     obtain ⟨hA3, ho3⟩ := HAF.out.setZ (.int .i64 1)
     have f4 := HAF.out.box.frozen (j := 4) (by simp)
     have HA3 := Lib.hid hA3
     have z4 := hA3.box.cell (j := 4) rfl
     have HO3 : Hid (Only (foot g A) w (wr.setCell ⟨g, 4, none⟩ (.int .i64 1))) := Lib.hid (HO.out.trans (ho3.mono (S' := foot g A) fun i _ e => Or.inl e) fun _ _ e => e)
     clear hA3 ho3 hs0
     go_wp2_with fail
     go_returns
     exact ⟨ret_val (congrArg (Value.int .i64) HQS.out.symm), by rw [HQS.out]; exact HA3.out, HO3.out⟩
    | false =>
     have HQS : Hid (qs = sk) := Lib.hid (by rw [← HE.out, if_neg fun e => by cases e.2])
     clear hs0
     go_wp2_with fail
     go_returns
     exact ⟨ret_val (congrArg (Value.int .i64) HQS.out.symm), by rw [HQS.out]; exact HAF.out, HO.out⟩
   ·have f1 : (sk == 0) = false := by simpa using hs0
    have HQS : Hid (qs = sk) := Lib.hid (by rw [← HE.out, if_neg fun e => hs0 e.1])
    clear hs0
    go_wp2_with fail
    go_returns
    exact ⟨ret_val (congrArg (Value.int .i64) HQS.out.symm), by rw [HQS.out]; exact HAF.out, HO.out⟩
set_option maxHeartbeats 1000000 in
theorem RAck_any (h : DAt B T w g A c t s l) (n : Int) : Calls Try.prog 16 #[.pointer (some ⟨g, 0, none⟩), .int .i64 n] w fun e w' =>
  e = .returned (.tuple #[]) ∧ DAt B T w' g A c t s (if s = 1 then aknL n l else l) ∧ Only (foot g A) w w' := by
 have hl := h.len
 obtain ⟨m, hm⟩ : ∃ m, l.length = m := ⟨_, rfl⟩
 have HN := Lib.hid hm
 have hml : m ≤ 40 := by rw [← hm]; exact hl
 have HH := Lib.hid h
 clear h hl hm
 by_cases hs1 : s = 1
 ·subst hs1
  rw [if_pos rfl]
  go_enter Try.func16, Try.ntmps16
  go_wp2_with fail
  go_loopw [4] (fun i wr => ∃ k : Nat, k ≤ m ∧ i = .int .i64 (k : Int) ∧ Hid (DAt B T wr g A c t 1 (midL (Sd.akn n) k l)) ∧ Hid (Only (foot g A) w wr)) (fun i _ => m - (intOf i).toNat)
  case atStart => exact ⟨0, Nat.zero_le _, rfl, Lib.hid (by rw [mid_zero]; exact HH.out), Lib.hid (Only.of_below (Below.refl _ _))⟩
  case round =>
   obtain ⟨k, hk, rfl, HA, HO⟩ := hrel
   have c3 := HA.out.box.cell (j := 3) rfl
   have c4 := HA.out.box.cell (j := 4) rfl
   rw [mid_len, HN.out] at c3
   by_cases hlt : k < m
   ·have f0 : decide ((k : Int) < (m : Int)) = true := decide_eq_true (by omega)
    have hkl : k < l.length := by rw [HN.out]; exact hlt
    have hkm : k < (midL (Sd.akn n) k l).length := by rw [mid_len]; exact hkl
    obtain ⟨p, rfl, hel⟩ := HA.out.elem hkm
    rw [mid_at hkl] at hel
    obtain ⟨hA3, ho3⟩ := HA.out.setK hkm
    have hms := mid_set (f := Sd.akn n) hkl
    have hsm := mid_same (f := Sd.akn n) hkl
    rw [mid_at hkl] at hA3
    obtain ⟨x, hx⟩ : ∃ x, l[k] = x := ⟨_, rfl⟩
    rw [hx] at hel hms hsm hA3
    have x0 : wr.cell? ⟨p, k * 4, none⟩ = _ := hel.cell (j := 0) rfl
    have x3 := hel.cell (j := 3) rfl
    have f3 := hel.frozen (j := 3) (by simp [Sd.vals])
    have hpl := hel.lt
    by_cases hxn : x.node = n
    ·have f1 : (x.node == n) = true := by simp [hxn]
     have hak : x.akn n = x.setK := by unfold Sd.akn; rw [if_pos hxn]
     rw [← hak, hms] at hA3
     have HA3 := Lib.hid hA3
     have HO3 : Hid (Only (foot g (some ⟨p, 0, none⟩)) w (wr.setCell ⟨p, k * 4 + 3, none⟩ (.bool true))) := Lib.hid (HO.out.trans (ho3.mono (S' := foot g (some ⟨p, 0, none⟩)) fun i _ e => Or.inr (by rw [e]; rfl)) fun _ _ e => e)
     clear hkl hkm hel hA3 ho3 hms hsm hx hxn hak HA HO
     go_wp2_with fail
     go_roundw
     case rel => exact ⟨k + 1, by omega, by go_num, HA3, HO3⟩
     case measure => simp [intOf]; omega
    ·have f1 : (x.node == n) = false := by simpa using hxn
     have HA3 : Hid (DAt B T wr g (some ⟨p, 0, none⟩) c t 1 (midL (Sd.akn n) (k + 1) l)) := Lib.hid (by rw [hsm (by unfold Sd.akn; rw [if_neg hxn])]; exact HA.out)
     clear hkl hkm hel hA3 ho3 hms hsm hx hxn HA
     go_wp2_with fail
     go_roundw
     case rel => exact ⟨k + 1, by omega, by go_num, HA3, HO⟩
     case measure => simp [intOf]; omega
   ·obtain rfl : k = m := by omega
    have HF : Hid (DAt B T wr g A c t 1 (aknL n l)) := Lib.hid (by have h1 := HA.out; rwa [mid_end (Nat.le_of_eq HN.out)] at h1)
    go_wp2_with fail
    go_returns
    exact ⟨rfl, HF.out, HO.out⟩
 ·rw [if_neg hs1]
  have f1 : (s == 1) = false := by simpa using hs1
  go_enter Try.func16, Try.ntmps16
  go_wp2_with fail
  go_loopw [4] (fun i wr => i = .int .i64 0 ∧ wr = w) (fun _ _ => 0)
  case atStart => exact ⟨rfl, rfl⟩
  case round =>
   obtain ⟨rfl, rfl⟩ := hrel
   have c3 := HH.out.box.cell (j := 3) rfl
   have c4 := HH.out.box.cell (j := 4) rfl
   rw [HN.out] at c3
   by_cases h0 : 0 < m
   ·have f0 : decide ((0 : Int) < (m : Int)) = true := decide_eq_true (by omega)
    go_wp2_with fail
    go_returns
    exact ⟨rfl, HH.out, Only.of_below (Below.refl _ _)⟩
   ·have f0 : decide ((0 : Int) < (m : Int)) = false := decide_eq_false (by omega)
    go_wp2_with fail
    go_returns
    exact ⟨rfl, HH.out, Only.of_below (Below.refl _ _)⟩
end
end Go.Proofs.Ytjeogeablbkhgaa.Vot
