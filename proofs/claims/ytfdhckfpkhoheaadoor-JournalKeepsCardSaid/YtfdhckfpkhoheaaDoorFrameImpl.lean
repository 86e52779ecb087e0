/-
  What the landed code of layer 3 does: Seal, Open, All, and their helpers. Conditions: the table of half bytes holds what its initialiser lays.
-/
import Derived.Test.YtfdhckfpkhoheaaDoorFrameCode
import Derived.Test.YtfdhckfpkhoheaaDoorJoin
import Derived.Test.YtfdhckfpkhoheaaDoorClone
import Derived.Test.YtfdhckfpkhoheaaDoorReg
import Derived.IntWalk
namespace Go.Proofs.YtfdhckfpkhoheaaDoor.Frame
open Go.RowKit Go.Proofs.YtfdhckfpkhoheaaDoor.Mem Go.Proofs.YtfdhckfpkhoheaaDoor.Crc Go.Proofs.YtfdhckfpkhoheaaDoor.Wire

theorem size_alloc (w : World) (o : Obj) : (w.alloc o).heap.size = w.heap.size + 1 := World.size_alloc ..
/-- A sum's four bytes, as an array's value. -/
def sumV (c : BitVec 32) : Value := .agg ((le4 c).map bv).toArray
set_option maxHeartbeats 1000000 in
theorem sumOf_any (s : ByteArray) (w : World) (hs : s.size ≤ 140737488355328) (hT : Tab w) :
    Calls Tryd.prog 37 #[.string s] w fun e w' => e = .returned (sumV (more 0#32 s.data.toList)) ∧ Below w.heap.size w w' := by
  have HS : Hid (∀ o : Obj, Calls Tryd.prog 41 #[.slice (some ⟨w.heap.size + 1, 0, none⟩) 1 1] ((w.alloc o).alloc (.cells #[.string s] 9)) fun e w' => e = .returned (.int .u32 ((more 0#32 s.data.toList).toNat : Int)) ∧ (w.alloc o).alloc (.cells #[.string s] 9) = w') := Lib.hid fun o => by
    have h := sum_any (some ⟨(w.alloc o).heap.size, 0, none⟩) [s] 1 _ (strs_one (w.alloc o) s 9 hs) (by show 1 ≤ maxLen; decide) ((hT.later (below_alloc w o)).later (below_alloc _ _))
    rw [cat_one, size_alloc] at h
    exact h
  generalize more 0#32 s.data.toList = c at *
  have HV := Lib.hid (show sumV c = .agg #[bv (UInt8.ofNat c.toNat), bv (UInt8.ofNat (c.toNat / 256)), bv (UInt8.ofNat (c.toNat / 65536)), bv (UInt8.ofNat (c.toNat / 16777216))] from rfl)
  have hcl := c.isLt
  generalize c.toNat = n at *
  go_enter Tryd.func37, Tryd.ntmps37
  go_wp2_with fail
  refine (HS.out _).mono ?_
  rintro e w1 ⟨rfl, rfl⟩
  go_wp2_with fail
  go_returns
  refine ⟨ret_val ?_, ((Below.refl _ w).alloc (Nat.le_refl _) _).alloc (by rw [size_alloc]; omega) _⟩
  rw [HV.out, byte_mod, show ((n : Int) / 256 % 256) = ((n / 256 : Nat) : Int) % 256 from rfl, byte_mod, show ((n : Int) / 65536 % 256) = ((n / 65536 : Nat) : Int) % 256 from rfl, byte_mod, show ((n : Int) / 16777216) = ((n / 16777216 : Nat) : Int) % 256 by omega, byte_mod]
  rfl

set_option maxHeartbeats 1000000 in
theorem payload_any (f : ByteArray) (w : World) (h6 : 6 ≤ f.size) (hs : f.size ≤ 140737488355328) :
    Calls Tryd.prog 26 #[.string f] w fun e w' => e = .returned (.string (f.extract 2 (f.size - 4))) ∧ Below w.heap.size w w' := by
  have HC : Hid (∀ w, Calls Tryd.prog 38 #[.string (f.extract 2 (f.size - 4))] w fun e w' => e = .returned (.string (f.extract 2 (f.size - 4))) ∧ Below w.heap.size w w') := Lib.hid fun w => clone_any _ w (by rw [ByteArray.size_extract]; omega)
  have hn1 : ((f.size : Int) - 4).toNat = f.size - 4 := by omega
  have hn2 : ((f.size : Int) - 4) ≤ (f.size : Int) := by omega
  have hn3 : (2 : Int) ≤ (f.size : Int) - 4 := by omega
  go_enter Tryd.func26, Tryd.ntmps26
  go_wp2_with fail
  refine (HC.out _).mono ?_
  rintro e w1 ⟨rfl, hb⟩
  go_wp2_with fail
  go_returns
  exact ⟨rfl, hb⟩

/-- What first answers. -/
def firstE (s : ByteArray) : Value := if err s.data.toList = 0 then .tuple #[.int .i64 (6 + flen s.data.toList : Nat), .int .i64 0] else .tuple #[.int .i64 0, .int .i64 (err s.data.toList)]
theorem or_le (a b : Nat) (ha : a < 256) (hb : b < 256) : bits .or .i64 ((a : Int) * 256) (b : Int) = ((a * 256 + b : Nat) : Int) := by
  have hx : a * 256 ||| b < 2 ^ 16 := Nat.or_lt_two_pow (by omega) (by omega)
  rw [show (a : Int) * 256 = ((a * 256 : Nat) : Int) by omega]
  show IntKind.i64.wrap ((BitVec.ofInt 64 ((a * 256 : Nat) : Int) ||| BitVec.ofInt 64 (b : Int)).toNat : Int) = _
  rw [BitVec.toNat_or, BitVec.ofInt_natCast, BitVec.ofInt_natCast, BitVec.toNat_ofNat, BitVec.toNat_ofNat, Nat.mod_eq_of_lt (by omega), Nat.mod_eq_of_lt (by omega)]
  have h := Nat.shiftLeft_add_eq_or_of_lt (i := 8) (show b < 2 ^ 8 by omega) a
  simp only [Nat.shiftLeft_eq, show (2 : Nat) ^ 8 = 256 from rfl] at h
  rw [← h]
  rw [IntKind.wrap_i64]; omega
/-- What is good of the values where first holds the sum against its bytes. -/
def firstGood (s : ByteArray) (n g : Nat) (cc : BitVec 32) (bb : Bool) : Nat → Value → World → Prop
  | 0, v, _ => v = .string s
  | 1, v, _ => v = .int .i64 (2 + (n : Int))
  | 2, v, _ => v = .int .i64 (2 + (n : Int))
  | 3, v, _ => v = .int .i64 (2 + (n : Int) + 4)
  | 4, v, _ => v = .string (s.extract (2 + n) (6 + n))
  | 5, v, _ => v = .slice (some ⟨g, 0, none⟩) 4 4
  | 6, v, _ => v = .string ⟨(le4 cc).toArray⟩
  | _, v, _ => v = .bool bb
set_option maxHeartbeats 2000000 in
theorem first_any (s : ByteArray) (w : World) (hs : s.size ≤ 2000000) (hT : Tab w) :
    Calls Tryd.prog 25 #[.string s] w fun e w' => e = .returned (firstE s) ∧ Below w.heap.size w w' := by
  have hz := toList_size s
  by_cases h1 : s.size < 6
  · have he : err s.data.toList = 4 := by unfold err; rw [if_pos (by omega)]
    have HV := Lib.hid (show firstE s = .tuple #[.int .i64 0, .int .i64 4] by unfold firstE; rw [he, if_neg (by decide)])
    clear he
    go_enter Tryd.func25, Tryd.ntmps25
    go_wp2
    go_returns
    exact ⟨ret_val HV.out.symm, Below.refl _ _⟩
  · have hf := flen_at s (by omega)
    have hi0 : 0 < s.size := by omega
    have hi1 : (1 : Int) < (s.size : Int) := by omega
    have hb0 := s[0].toNat_lt
    have hb1 := s[1].toNat_lt
    have hor := or_le s[0].toNat s[1].toNat hb0 hb1
    rw [← hf] at hor
    have HOR := Lib.hid hor
    clear hor
    generalize hn : flen s.data.toList = n at *
    by_cases h2 : 4096 < n
    · have he : err s.data.toList = 5 := by unfold err; rw [if_neg (by omega), hn, if_pos h2]
      have HV := Lib.hid (show firstE s = .tuple #[.int .i64 0, .int .i64 5] by unfold firstE; rw [he, if_neg (by decide)])
      clear he hn
      go_enter Tryd.func25, Tryd.ntmps25
      go_wp2_with fail
      go_region
      rw [HOR.out]
      clear hf
      go_wp2_with fail
      go_returns
      exact ⟨ret_val HV.out.symm, (Below.refl _ _).drew⟩
    by_cases h3 : s.size < 6 + n
    · have he : err s.data.toList = 4 := by unfold err; rw [if_neg (by omega), hn, if_neg h2, if_pos (by omega)]
      have HV := Lib.hid (show firstE s = .tuple #[.int .i64 0, .int .i64 4] by unfold firstE; rw [he, if_neg (by decide)])
      clear he hn
      go_enter Tryd.func25, Tryd.ntmps25
      go_wp2_with fail
      go_region
      rw [HOR.out]
      clear hf
      go_wp2_with fail
      go_returns
      exact ⟨ret_val HV.out.symm, (Below.refl _ _).drew⟩
    have hx1 : (s.extract 0 (2 + n)).data.toList = s.data.toList.take (2 + n) := by rw [ext_list, List.drop_zero]
    have hx2 : (s.extract (2 + n) (6 + n)).data.toList = (s.data.toList.drop (2 + n)).take 4 := by rw [ext_list, List.drop_take, show 6 + n - (2 + n) = 4 by omega]
    have HS : Hid (∀ w1 : World, Below w.heap.size w w1 → Calls Tryd.prog 37 #[.string (s.extract 0 (2 + n))] w1 fun e w' => e = .returned (sumV (more 0#32 (s.data.toList.take (2 + n)))) ∧ Below w1.heap.size w1 w') := Lib.hid fun w1 hb => by
      have h := sumOf_any (s.extract 0 (2 + n)) w1 (by rw [ByteArray.size_extract]; omega) (hT.later hb)
      rw [hx1] at h
      exact h
    generalize hcc : more 0#32 (s.data.toList.take (2 + n)) = cc at *
    by_cases h4 : (s.data.toList.drop (2 + n)).take 4 = le4 cc
    · have he : err s.data.toList = 0 := by unfold err; rw [if_neg (by omega), hn, if_neg h2, if_neg (by omega), if_neg (by rw [hcc, h4]; simp)]
      have HV := Lib.hid (show firstE s = .tuple #[.int .i64 (6 + n : Nat), .int .i64 0] by unfold firstE; rw [if_pos he, hn])
      have heq : s.extract (2 + n) (6 + n) = ⟨(le4 cc).toArray⟩ := ba_ext (by rw [hx2, h4])
      have HNE := Lib.hid (show (s.extract (2 + n) (6 + n)).toList = le4 cc by rw [heq, ByteArray.toList_eq])
      obtain ⟨b0, b1, b2, b3, hle⟩ : ∃ b0 b1 b2 b3, le4 cc = [b0, b1, b2, b3] := ⟨_, _, _, _, rfl⟩
      have HSV := Lib.hid (show sumV cc = .agg #[.int .u8 (b0.toNat : Int), .int .u8 (b1.toNat : Int), .int .u8 (b2.toNat : Int), .int .u8 (b3.toNat : Int)] by unfold sumV; rw [hle]; rfl)
      have HC4 : Hid (∀ w1 : World, Cells (w1.alloc (.cells #[.int .u8 (b0.toNat : Int), .int .u8 (b1.toNat : Int), .int .u8 (b2.toNat : Int), .int .u8 (b3.toNat : Int)] 71)) w1.heap.size 71 ((le4 cc).map bv)) := Lib.hid fun w1 => cells_new w1 _ _ _ (by rw [hle]; rfl)
      have HA1 := Lib.hid (show (2 + (n : Int)).toNat = 2 + n by omega)
      have HA2 := Lib.hid (show (2 + (n : Int) + 4).toNat = 6 + n by omega)
      have HA3 := Lib.hid (show 2 + (n : Int) + 4 ≤ (s.size : Int) by omega)
      clear he hn hcc h4 heq hx1 hx2 hle
      go_enter Tryd.func25, Tryd.ntmps25
      go_wp2_with fail
      go_region
      rw [HOR.out]
      clear hf
      go_wp2_with fail
      refine (HS.out _ ((Below.refl _ _).drew)).mono ?_
      rintro e w1 ⟨rfl, hb⟩
      rw [HSV.out]
      go_wp2_with fail
      have HC := Lib.hid (HC4.out w1)
      have hbl : Below w.heap.size w (w1.alloc (.cells #[.int .u8 (b0.toNat : Int), .int .u8 (b1.toNat : Int), .int .u8 (b2.toNat : Int), .int .u8 (b3.toNat : Int)] 71)) := by
        have h1 : Below w.heap.size w w.drew := (Below.refl _ _).drew
        have h2 := h1.trans (hb.mono h1.size)
        exact h2.alloc h2.size _
      have HBL := Lib.hid hbl
      clear hb hbl
      refine Reg.region_slots (by kernel_rfl) [7] (firstGood s n w1.heap.size cc false) (fun a b => Below a.heap.size a b) (fun V => [(31, V 0), (32, V 1), (33, V 2), (34, V 3), (35, V 4), (36, V 5), (37, V 6), (38, V 7)]) (by kernel_rfl) (by kernel_rfl) (fun V => rfl) (fun a => Below.refl _ a) (fun a b c h k => h.trans (k.mono h.size)) ?_ ?_
      · intro i o ho
        have hi : i < 8 := (Array.getElem?_eq_some_iff.1 ho).1
        rcases i with _ | _ | _ | _ | _ | _ | _ | _ | i
        · obtain rfl := Option.some.inj ho
          intro ρ wi hE hL hs hd
          have e0 : ρ (.tmp 0) = .string s := hs 0 (by kernel_rfl)
          exact Reg.Gives.value (v := .string s) (w' := wi) (by go_simp) (Reg.Res.same (fun a => Below.refl _ a) rfl)
        · obtain rfl := Option.some.inj ho
          intro ρ wi hE hL hs hd
          have e5 : ρ (.tmp 5) = .int .i64 (2 + (n : Int)) := hs 5 (by kernel_rfl)
          exact Reg.Gives.value (v := .int .i64 (2 + (n : Int))) (w' := wi) (by go_simp) (Reg.Res.same (fun a => Below.refl _ a) rfl)
        · obtain rfl := Option.some.inj ho
          intro ρ wi hE hL hs hd
          have e5 : ρ (.tmp 5) = .int .i64 (2 + (n : Int)) := hs 5 (by kernel_rfl)
          exact Reg.Gives.value (v := .int .i64 (2 + (n : Int))) (w' := wi) (by go_simp) (Reg.Res.same (fun a => Below.refl _ a) rfl)
        · obtain rfl := Option.some.inj ho
          intro ρ wi hE hL hs hd
          obtain ⟨u33, g33, e33⟩ := hd 2 33 (by kernel_rfl) (by kernel_rfl) (by show _ < 41; decide)
          obtain rfl : u33 = .int .i64 (2 + (n : Int)) := g33
          have hc := hE.const
          have hc := hE.const
          have hw : IntKind.i64.wrap (2 + (n : Int) + 4) = 2 + (n : Int) + 4 := IntWalk.i64_in _ (by omega)
          exact Reg.Gives.value (v := .int .i64 (2 + (n : Int) + 4)) (w' := wi) (by go_simp) (Reg.Res.same (fun a => Below.refl _ a) rfl)
        · obtain rfl := Option.some.inj ho
          intro ρ wi hE hL hs hd
          obtain ⟨u31, g31, e31⟩ := hd 0 31 (by kernel_rfl) (by kernel_rfl) (by show _ < 41; decide)
          obtain rfl : u31 = .string s := g31
          obtain ⟨u32, g32, e32⟩ := hd 1 32 (by kernel_rfl) (by kernel_rfl) (by show _ < 41; decide)
          obtain rfl : u32 = .int .i64 (2 + (n : Int)) := g32
          obtain ⟨u34, g34, e34⟩ := hd 3 34 (by kernel_rfl) (by kernel_rfl) (by show _ < 41; decide)
          obtain rfl : u34 = .int .i64 (2 + (n : Int) + 4) := g34
          have ha1 := HA1.out
          have ha2 := HA2.out
          have ha3 := HA3.out
          have ha4 : (0 : Int) ≤ 2 + (n : Int) + 4 := by omega
          have ha5 : (0 : Int) ≤ 2 + (n : Int) := by omega
          have ha6 : 2 + (n : Int) ≤ 2 + (n : Int) + 4 := by omega
          exact Reg.Gives.value (v := .string (s.extract (2 + n) (6 + n))) (w' := wi) (by go_simp) (Reg.Res.same (fun a => Below.refl _ a) rfl)
        · obtain rfl := Option.some.inj ho
          intro ρ wi hE hL hs hd
          have e6 : ρ (.tmp 6) = .pointer (some ⟨w1.heap.size, 0, none⟩) := hs 6 (by kernel_rfl)
          exact Reg.Gives.value (v := .slice (some ⟨w1.heap.size, 0, none⟩) 4 4) (w' := wi) (by go_simp) (Reg.Res.same (fun a => Below.refl _ a) rfl)
        · obtain rfl := Option.some.inj ho
          intro ρ wi hE hL hs hd
          obtain ⟨u36, g36, e36⟩ := hd 5 36 (by kernel_rfl) (by kernel_rfl) (by show _ < 41; decide)
          obtain rfl : u36 = .slice (some ⟨w1.heap.size, 0, none⟩) 4 4 := g36
          have hback := string_back (P := Tryd.prog) (cap := 4) (n := 4) Tryd.underlying41 Tryd.underlying5 Tryd.underlying9 (HC.out.later ((Below.refl _ _).drew.trans hL)) (le4_length cc)
          exact Reg.Gives.value (v := .string ⟨(le4 cc).toArray⟩) (w' := wi) (by go_simp) (Reg.Res.same (fun a => Below.refl _ a) rfl)
        · obtain rfl := Option.some.inj ho
          intro ρ wi hE hL hs hd
          obtain ⟨u35, g35, e35⟩ := hd 4 35 (by kernel_rfl) (by kernel_rfl) (by show _ < 41; decide)
          obtain rfl : u35 = .string (s.extract (2 + n) (6 + n)) := g35
          obtain ⟨u37, g37, e37⟩ := hd 6 37 (by kernel_rfl) (by kernel_rfl) (by show _ < 41; decide)
          obtain rfl : u37 = .string ⟨(le4 cc).toArray⟩ := g37
          have hne := HNE.out
          exact Reg.Gives.value (v := .bool false) (w' := wi) (by go_simp) (Reg.Res.same (fun a => Below.refl _ a) rfl)
        · omega
      · intro V w' hV hL
        have h7 : V 7 = .bool false := hV 7 (by decide) rfl
        have HL := Lib.hid (HBL.out.trans (((Below.refl _ _).drew.trans hL).mono HBL.out.size))
        have HN6 := Lib.hid (show 2 + (n : Int) + 4 = (6 + n : Nat) by omega)
        clear hL hV
        simp only [Reg.putsV, List.foldl_cons, List.foldl_nil, Act.put, List.setIfInBounds_toArray, List.set_cons_succ, List.set_cons_zero, h7]
        go_wp2_with fail
        go_returns
        exact ⟨ret_val (by rw [HV.out]; first | rfl | (rw [← HN6.out]; rfl)), HL.out⟩
    · have he : err s.data.toList = 3 := by unfold err; rw [if_neg (by omega), hn, if_neg h2, if_neg (by omega), if_pos (by rw [hcc]; exact h4)]
      have HV := Lib.hid (show firstE s = .tuple #[.int .i64 0, .int .i64 3] by unfold firstE; rw [he, if_neg (by decide)])
      have heq : s.extract (2 + n) (6 + n) ≠ ⟨(le4 cc).toArray⟩ := fun h => h4 (by rw [← hx2, h])
      have HNE := Lib.hid (show ¬ (s.extract (2 + n) (6 + n)).toList = le4 cc by intro h; exact heq (ba_ext (by rw [← ByteArray.toList_eq, h])))
      obtain ⟨b0, b1, b2, b3, hle⟩ : ∃ b0 b1 b2 b3, le4 cc = [b0, b1, b2, b3] := ⟨_, _, _, _, rfl⟩
      have HSV := Lib.hid (show sumV cc = .agg #[.int .u8 (b0.toNat : Int), .int .u8 (b1.toNat : Int), .int .u8 (b2.toNat : Int), .int .u8 (b3.toNat : Int)] by unfold sumV; rw [hle]; rfl)
      have HC4 : Hid (∀ w1 : World, Cells (w1.alloc (.cells #[.int .u8 (b0.toNat : Int), .int .u8 (b1.toNat : Int), .int .u8 (b2.toNat : Int), .int .u8 (b3.toNat : Int)] 71)) w1.heap.size 71 ((le4 cc).map bv)) := Lib.hid fun w1 => cells_new w1 _ _ _ (by rw [hle]; rfl)
      have HA1 := Lib.hid (show (2 + (n : Int)).toNat = 2 + n by omega)
      have HA2 := Lib.hid (show (2 + (n : Int) + 4).toNat = 6 + n by omega)
      have HA3 := Lib.hid (show 2 + (n : Int) + 4 ≤ (s.size : Int) by omega)
      clear he hn hcc h4 heq hx1 hx2 hle
      go_enter Tryd.func25, Tryd.ntmps25
      go_wp2_with fail
      go_region
      rw [HOR.out]
      clear hf
      go_wp2_with fail
      refine (HS.out _ ((Below.refl _ _).drew)).mono ?_
      rintro e w1 ⟨rfl, hb⟩
      rw [HSV.out]
      go_wp2_with fail
      have HC := Lib.hid (HC4.out w1)
      have hbl : Below w.heap.size w (w1.alloc (.cells #[.int .u8 (b0.toNat : Int), .int .u8 (b1.toNat : Int), .int .u8 (b2.toNat : Int), .int .u8 (b3.toNat : Int)] 71)) := by
        have h1 : Below w.heap.size w w.drew := (Below.refl _ _).drew
        have h2 := h1.trans (hb.mono h1.size)
        exact h2.alloc h2.size _
      have HBL := Lib.hid hbl
      clear hb hbl
      refine Reg.region_slots (by kernel_rfl) [7] (firstGood s n w1.heap.size cc true) (fun a b => Below a.heap.size a b) (fun V => [(31, V 0), (32, V 1), (33, V 2), (34, V 3), (35, V 4), (36, V 5), (37, V 6), (38, V 7)]) (by kernel_rfl) (by kernel_rfl) (fun V => rfl) (fun a => Below.refl _ a) (fun a b c h k => h.trans (k.mono h.size)) ?_ ?_
      · intro i o ho
        have hi : i < 8 := (Array.getElem?_eq_some_iff.1 ho).1
        rcases i with _ | _ | _ | _ | _ | _ | _ | _ | i
        · obtain rfl := Option.some.inj ho
          intro ρ wi hE hL hs hd
          have e0 : ρ (.tmp 0) = .string s := hs 0 (by kernel_rfl)
          exact Reg.Gives.value (v := .string s) (w' := wi) (by go_simp) (Reg.Res.same (fun a => Below.refl _ a) rfl)
        · obtain rfl := Option.some.inj ho
          intro ρ wi hE hL hs hd
          have e5 : ρ (.tmp 5) = .int .i64 (2 + (n : Int)) := hs 5 (by kernel_rfl)
          exact Reg.Gives.value (v := .int .i64 (2 + (n : Int))) (w' := wi) (by go_simp) (Reg.Res.same (fun a => Below.refl _ a) rfl)
        · obtain rfl := Option.some.inj ho
          intro ρ wi hE hL hs hd
          have e5 : ρ (.tmp 5) = .int .i64 (2 + (n : Int)) := hs 5 (by kernel_rfl)
          exact Reg.Gives.value (v := .int .i64 (2 + (n : Int))) (w' := wi) (by go_simp) (Reg.Res.same (fun a => Below.refl _ a) rfl)
        · obtain rfl := Option.some.inj ho
          intro ρ wi hE hL hs hd
          obtain ⟨u33, g33, e33⟩ := hd 2 33 (by kernel_rfl) (by kernel_rfl) (by show _ < 41; decide)
          obtain rfl : u33 = .int .i64 (2 + (n : Int)) := g33
          have hc := hE.const
          have hc := hE.const
          have hw : IntKind.i64.wrap (2 + (n : Int) + 4) = 2 + (n : Int) + 4 := IntWalk.i64_in _ (by omega)
          exact Reg.Gives.value (v := .int .i64 (2 + (n : Int) + 4)) (w' := wi) (by go_simp) (Reg.Res.same (fun a => Below.refl _ a) rfl)
        · obtain rfl := Option.some.inj ho
          intro ρ wi hE hL hs hd
          obtain ⟨u31, g31, e31⟩ := hd 0 31 (by kernel_rfl) (by kernel_rfl) (by show _ < 41; decide)
          obtain rfl : u31 = .string s := g31
          obtain ⟨u32, g32, e32⟩ := hd 1 32 (by kernel_rfl) (by kernel_rfl) (by show _ < 41; decide)
          obtain rfl : u32 = .int .i64 (2 + (n : Int)) := g32
          obtain ⟨u34, g34, e34⟩ := hd 3 34 (by kernel_rfl) (by kernel_rfl) (by show _ < 41; decide)
          obtain rfl : u34 = .int .i64 (2 + (n : Int) + 4) := g34
          have ha1 := HA1.out
          have ha2 := HA2.out
          have ha3 := HA3.out
          have ha4 : (0 : Int) ≤ 2 + (n : Int) + 4 := by omega
          have ha5 : (0 : Int) ≤ 2 + (n : Int) := by omega
          have ha6 : 2 + (n : Int) ≤ 2 + (n : Int) + 4 := by omega
          exact Reg.Gives.value (v := .string (s.extract (2 + n) (6 + n))) (w' := wi) (by go_simp) (Reg.Res.same (fun a => Below.refl _ a) rfl)
        · obtain rfl := Option.some.inj ho
          intro ρ wi hE hL hs hd
          have e6 : ρ (.tmp 6) = .pointer (some ⟨w1.heap.size, 0, none⟩) := hs 6 (by kernel_rfl)
          exact Reg.Gives.value (v := .slice (some ⟨w1.heap.size, 0, none⟩) 4 4) (w' := wi) (by go_simp) (Reg.Res.same (fun a => Below.refl _ a) rfl)
        · obtain rfl := Option.some.inj ho
          intro ρ wi hE hL hs hd
          obtain ⟨u36, g36, e36⟩ := hd 5 36 (by kernel_rfl) (by kernel_rfl) (by show _ < 41; decide)
          obtain rfl : u36 = .slice (some ⟨w1.heap.size, 0, none⟩) 4 4 := g36
          have hback := string_back (P := Tryd.prog) (cap := 4) (n := 4) Tryd.underlying41 Tryd.underlying5 Tryd.underlying9 (HC.out.later ((Below.refl _ _).drew.trans hL)) (le4_length cc)
          exact Reg.Gives.value (v := .string ⟨(le4 cc).toArray⟩) (w' := wi) (by go_simp) (Reg.Res.same (fun a => Below.refl _ a) rfl)
        · obtain rfl := Option.some.inj ho
          intro ρ wi hE hL hs hd
          obtain ⟨u35, g35, e35⟩ := hd 4 35 (by kernel_rfl) (by kernel_rfl) (by show _ < 41; decide)
          obtain rfl : u35 = .string (s.extract (2 + n) (6 + n)) := g35
          obtain ⟨u37, g37, e37⟩ := hd 6 37 (by kernel_rfl) (by kernel_rfl) (by show _ < 41; decide)
          obtain rfl : u37 = .string ⟨(le4 cc).toArray⟩ := g37
          have hne := HNE.out
          exact Reg.Gives.value (v := .bool true) (w' := wi) (by go_simp) (Reg.Res.same (fun a => Below.refl _ a) rfl)
        · omega
      · intro V w' hV hL
        have h7 : V 7 = .bool true := hV 7 (by decide) rfl
        have HL := Lib.hid (HBL.out.trans (((Below.refl _ _).drew.trans hL).mono HBL.out.size))
        have HN6 := Lib.hid (show 2 + (n : Int) + 4 = (6 + n : Nat) by omega)
        clear hL hV
        simp only [Reg.putsV, List.foldl_cons, List.foldl_nil, Act.put, List.setIfInBounds_toArray, List.set_cons_succ, List.set_cons_zero, h7]
        go_wp2_with fail
        go_returns
        exact ⟨ret_val (by rw [HV.out]; first | rfl | (rw [← HN6.out]; rfl)), HL.out⟩

/-- What is good of the values where Seal joins. -/
def sealGood (A : Option Addr) (ss : List ByteArray) (c n : Nat) (x0 x1 : UInt8) : Nat → Value → World → Prop
  | 0, v, _ => v = .int .i64 (n : Int)
  | 1, v, _ => v = .int .i64 ((n : Int) / 256)
  | 2, v, _ => v = (.int .u8 (x1.toNat : Int))
  | 3, v, _ => v = .int .i64 (n : Int)
  | 4, v, _ => v = (.int .u8 (x0.toNat : Int))
  | 5, v, w => ∃ g, v = .slice (some ⟨g, 0, none⟩) 2 2 ∧ Cells w g 5 ((big n 2).map bv)
  | 6, v, _ => v = .string ⟨(big n 2).toArray⟩
  | 7, v, _ => v = .slice A ss.length c
  | 8, v, _ => v = .string ⟨(cat ss).toArray⟩
  | _, v, _ => v = .string ⟨(big n 2 ++ cat ss).toArray⟩
theorem seal_good_later {A : Option Addr} {ss : List ByteArray} {c n j : Nat} {x0 x1 : UInt8} {v : Value} {w w' : World} (hb : Below w.heap.size w w') (h : sealGood A ss c n x0 x1 j v w) : sealGood A ss c n x0 x1 j v w' := by
  match j, h with
  | 0, h | 1, h | 2, h | 3, h | 4, h | 6, h | 7, h | 8, h => exact h
  | 5, h =>
    obtain ⟨g, h1, h2⟩ := h
    exact ⟨g, h1, h2.later hb⟩
  | _ + 9, h => exact h
set_option maxHeartbeats 2000000 in
theorem seal_any (A : Option Addr) (ss : List ByteArray) (c : Nat) (w : World) (hs : Strs w A ss) (hn : ss.length ≤ 1000) (hl : (cat ss).length ≤ 140737488355328) (hc : Cap A ss.length c) (hT : Tab w) :
    Calls Tryd.prog 28 #[.slice A ss.length c] w fun e w' => e = .returned (sealE (cat ss)) ∧ Below w.heap.size w w' := by
  have HLL := Lib.hid hl
  have HCC := Lib.hid hc
  have HST := Lib.hid hs
  have HTT := Lib.hid hT
  clear hc hT
  go_enter Tryd.func28, Tryd.ntmps28
  go_wp2_with fail
  go_loop [4, 11] (fun n i => ∃ k : Nat, k ≤ ss.length ∧ i = .int .i64 k ∧ n = .int .i64 ((cat (ss.take k)).length : Nat) ∧ (cat (ss.take k)).length ≤ 4096) (fun _ i => ss.length - (intOf i).toNat)
  case atStart => exact ⟨0, Nat.zero_le _, rfl, rfl, by simp [cat]⟩
  case round =>
    obtain ⟨k, hk, rfl, rfl, hle⟩ := hrel
    by_cases hlt : k < ss.length
    · obtain ⟨ad, rfl, hc, hz⟩ := hs k hlt
      have HT := Lib.hid (cat_take ss k hlt)
      have HTL := Lib.hid (cat_take_le ss (k + 1))
      generalize ss[k] = s at hc hz HT
      by_cases hb : (cat (ss.take k)).length + s.size ≤ 4096
      · clear hs hl
        go_wp2_with fail
        go_round
        case rel => exact ⟨k + 1, by omega, by go_num, by rw [HT.out, List.length_append, Array.length_toList, Int.natCast_add]; rfl, by rw [HT.out, List.length_append, Array.length_toList]; exact hb⟩
        case measure => simp [intOf]; omega
      · have HV := Lib.hid (show sealE (cat ss) = .tuple #[.string ⟨#[]⟩, .int .i64 5] from if_pos (by have h1 := HTL.out; rw [HT.out, List.length_append, toList_size] at h1; omega))
        clear hs hl
        go_wp2_with fail
        go_returns
        exact ⟨ret_val HV.out.symm, Below.refl _ _⟩
    · obtain rfl : k = ss.length := by omega
      rw [List.take_of_length_le (Nat.le_refl _)] at hle ⊢
      clear hs hl hlt hk
      generalize hnn : (cat ss).length = n at *
      have hfr : frm (cat ss) = (big n 2 ++ cat ss) ++ le4 (more 0#32 (big n 2 ++ cat ss)) := by unfold frm; rw [hnn]
      have HV := Lib.hid (show sealE (cat ss) = .tuple #[.string ⟨((big n 2 ++ cat ss) ++ le4 (more 0#32 (big n 2 ++ cat ss))).toArray⟩, .int .i64 0] by unfold sealE; rw [hfr, if_neg (by omega)])
      have HJ : Hid (∀ w', Below w.heap.size w w' → Calls Tryd.prog 34 #[.slice A ss.length c, .string ⟨#[]⟩] w' fun e w'' => e = .returned (.string ⟨(cat ss).toArray⟩) ∧ Below w'.heap.size w' w'') := Lib.hid fun w' hb =>
        join_any A ss c w' (HST.out.later hb) (by omega) HCC.out.2 (by rw [hnn]; omega)
      have HSM : Hid (∀ w', Below w.heap.size w w' → Calls Tryd.prog 37 #[.string ⟨(big n 2 ++ cat ss).toArray⟩] w' fun e w'' => e = .returned (sumV (more 0#32 (big n 2 ++ cat ss))) ∧ Below w'.heap.size w' w'') := Lib.hid fun w' hb =>
        sumOf_any _ w' (by show (big n 2 ++ cat ss).toArray.size ≤ _; rw [List.size_toArray, List.length_append, big_length, hnn]; omega) (HTT.out.later hb)
      obtain ⟨x1, HB1, x0, HB0, HBG⟩ : ∃ x1, Hid (((n : Int) / 256 % 256) = (UInt8.toNat x1 : Int)) ∧ ∃ x0, Hid (((n : Int) % 256) = (UInt8.toNat x0 : Int)) ∧ Hid (big n 2 = [x1, x0]) := ⟨_, Lib.hid (byte_mod (n / 256)), _, Lib.hid (byte_mod n), Lib.hid (by simp [big])⟩
      have HA := Lib.hid (show (ByteArray.mk (big n 2).toArray) ++ (ByteArray.mk (cat ss).toArray) = ⟨(big n 2 ++ cat ss).toArray⟩ from bytes_app _ _)
      have HL := Lib.hid (show (big n 2).length + (cat ss).length ≤ 9223372036854775807 by rw [big_length, hnn]; omega)
      have HCL := Lib.hid hnn
      clear hfr hnn
      go_wp2_with fail
      refine Reg.region_slots (by kernel_rfl) [10] (sealGood A ss c n x0 x1) (fun a b => Below a.heap.size a b) (fun V => [(22, V 0), (23, V 1), (24, V 2), (25, V 3), (26, V 4), (27, V 5), (28, V 6), (29, V 7), (30, V 8), (31, V 9), (7, V 10)]) (by kernel_rfl) (by kernel_rfl) (fun V => rfl) (fun a => Below.refl _ a) (fun a b c h k => h.trans (k.mono h.size)) ?_ ?_
      · intro i o ho
        have hi : i < 11 := (Array.getElem?_eq_some_iff.1 ho).1
        rcases i with _ | _ | _ | _ | _ | _ | _ | _ | _ | _ | _ | i
        · obtain rfl := Option.some.inj ho
          intro ρ wi hE hL hs hd
          have e4 : ρ (.tmp 4) = .int .i64 (n : Int) := hs 4 (by kernel_rfl)
          exact Reg.Gives.value (v := .int .i64 (n : Int)) (w' := wi) (by go_simp) (Reg.Res.same (fun a => Below.refl _ a) rfl)
        · obtain rfl := Option.some.inj ho
          intro ρ wi hE hL hs hd
          obtain ⟨u22, g22, e22⟩ := hd 0 22 (by kernel_rfl) (by kernel_rfl) (by show _ < 38; decide)
          obtain rfl : u22 = .int .i64 (n : Int) := g22
          have hc := hE.const
          exact Reg.Gives.value (v := .int .i64 ((n : Int) / 256)) (w' := wi) (by go_simp) (Reg.Res.same (fun a => Below.refl _ a) rfl)
        · obtain rfl := Option.some.inj ho
          intro ρ wi hE hL hs hd
          obtain ⟨u23, g23, e23⟩ := hd 1 23 (by kernel_rfl) (by kernel_rfl) (by show _ < 38; decide)
          obtain rfl : u23 = .int .i64 ((n : Int) / 256) := g23
          have hw := HB1.out
          have hw2 : IntKind.u8.wrap ((n : Int) / 256) = (x1.toNat : Int) := by rw [IntKind.wrap_u8, hw]
          refine Reg.Gives.value (v := (.int .u8 (x1.toNat : Int))) (w' := wi) ?_ (Reg.Res.same (fun a => Below.refl _ a) rfl)
          go_simp
        · obtain rfl := Option.some.inj ho
          intro ρ wi hE hL hs hd
          have e4 : ρ (.tmp 4) = .int .i64 (n : Int) := hs 4 (by kernel_rfl)
          exact Reg.Gives.value (v := .int .i64 (n : Int)) (w' := wi) (by go_simp) (Reg.Res.same (fun a => Below.refl _ a) rfl)
        · obtain rfl := Option.some.inj ho
          intro ρ wi hE hL hs hd
          obtain ⟨u25, g25, e25⟩ := hd 3 25 (by kernel_rfl) (by kernel_rfl) (by show _ < 38; decide)
          obtain rfl : u25 = .int .i64 (n : Int) := g25
          have hw := HB0.out
          have hw2 : IntKind.u8.wrap (n : Int) = (x0.toNat : Int) := by rw [IntKind.wrap_u8, hw]
          refine Reg.Gives.value (v := (.int .u8 (x0.toNat : Int))) (w' := wi) ?_ (Reg.Res.same (fun a => Below.refl _ a) rfl)
          go_simp
        · obtain rfl := Option.some.inj ho
          intro ρ wi hE hL hs hd
          obtain ⟨u24, g24, e24⟩ := hd 2 24 (by kernel_rfl) (by kernel_rfl) (by show _ < 38; decide)
          obtain rfl : u24 = (.int .u8 (x1.toNat : Int)) := g24
          obtain ⟨u26, g26, e26⟩ := hd 4 26 (by kernel_rfl) (by kernel_rfl) (by show _ < 38; decide)
          obtain rfl : u26 = (.int .u8 (x0.toNat : Int)) := g26
          have hal := below_alloc wi (.cells #[(.int .u8 (x1.toNat : Int)), (.int .u8 (x0.toNat : Int))] 5)
          exact Reg.Gives.value (v := .slice (some ⟨wi.heap.size, 0, none⟩) 2 2) (w' := wi.alloc (.cells #[(.int .u8 (x1.toNat : Int)), (.int .u8 (x0.toNat : Int))] 5)) (by go_simp) ⟨⟨_, rfl, cells_new wi _ _ _ (by rw [HBG.out]; rfl)⟩, hal, fun j u _ _ h => seal_good_later hal h⟩
        · obtain rfl := Option.some.inj ho
          intro ρ wi hE hL hs hd
          obtain ⟨u27, g27, e27⟩ := hd 5 27 (by kernel_rfl) (by kernel_rfl) (by show _ < 38; decide)
          obtain ⟨g, rfl, hcs⟩ := g27
          have hback := string_back (P := Tryd.prog) (cap := 2) (n := 2) Tryd.underlying41 Tryd.underlying5 Tryd.underlying9 hcs (big_length n 2)
          exact Reg.Gives.value (v := .string ⟨(big n 2).toArray⟩) (w' := wi) (by go_simp) (Reg.Res.same (fun a => Below.refl _ a) rfl)
        · obtain rfl := Option.some.inj ho
          intro ρ wi hE hL hs hd
          have e0 : ρ (.tmp 0) = .slice A ss.length c := hs 0 (by kernel_rfl)
          exact Reg.Gives.value (v := .slice A ss.length c) (w' := wi) (by go_simp) (Reg.Res.same (fun a => Below.refl _ a) rfl)
        · obtain rfl := Option.some.inj ho
          intro ρ wi hE hL hs hd
          obtain ⟨u29, g29, e29⟩ := hd 7 29 (by kernel_rfl) (by kernel_rfl) (by show _ < 38; decide)
          obtain rfl : u29 = .slice A ss.length c := g29
          have hc := hE.const
          have hf := hE.func
          refine Reg.Gives.call (f := 34) (args := #[.slice A ss.length c, .string ⟨#[]⟩]) (w' := wi) (by go_simp) ?_
          refine (HJ.out wi ((Below.refl _ _).drew.trans hL)).mono ?_
          rintro e w'' ⟨rfl, hbb⟩
          exact ⟨_, rfl, rfl, hbb, fun j u _ _ h => seal_good_later hbb h⟩
        · obtain rfl := Option.some.inj ho
          intro ρ wi hE hL hs hd
          obtain ⟨u28, g28, e28⟩ := hd 6 28 (by kernel_rfl) (by kernel_rfl) (by show _ < 38; decide)
          obtain rfl : u28 = .string ⟨(big n 2).toArray⟩ := g28
          obtain ⟨u30, g30, e30⟩ := hd 8 30 (by kernel_rfl) (by kernel_rfl) (by show _ < 38; decide)
          obtain rfl : u30 = .string ⟨(cat ss).toArray⟩ := g30
          have hap := HA.out
          have hl := HL.out
          exact Reg.Gives.value (v := .string ⟨(big n 2 ++ cat ss).toArray⟩) (w' := wi) (by go_simp) (Reg.Res.same (fun a => Below.refl _ a) rfl)
        · obtain rfl := Option.some.inj ho
          intro ρ wi hE hL hs hd
          obtain ⟨u31, g31, e31⟩ := hd 9 31 (by kernel_rfl) (by kernel_rfl) (by show _ < 38; decide)
          obtain rfl : u31 = .string ⟨(big n 2 ++ cat ss).toArray⟩ := g31
          exact Reg.Gives.value (v := .string ⟨(big n 2 ++ cat ss).toArray⟩) (w' := wi) (by go_simp) (Reg.Res.same (fun a => Below.refl _ a) rfl)
        · omega
      · intro V w1 hV hL
        have h10 : V 10 = .string ⟨(big n 2 ++ cat ss).toArray⟩ := hV 10 (by decide) rfl
        have HL1 := Lib.hid (show Below w.heap.size w w1 from (Below.refl _ _).drew.trans hL)
        clear hL hV
        simp only [Reg.putsV, List.foldl_cons, List.foldl_nil, Act.put, List.setIfInBounds_toArray, List.set_cons_succ, List.set_cons_zero, h10]
        clear h10
        generalize hcc : more 0#32 (big n 2 ++ cat ss) = cc at *
        obtain ⟨b0, b1, b2, b3, hle⟩ : ∃ b0 b1 b2 b3, le4 cc = [b0, b1, b2, b3] := ⟨_, _, _, _, rfl⟩
        have HSV := Lib.hid (show sumV cc = .agg #[.int .u8 (b0.toNat : Int), .int .u8 (b1.toNat : Int), .int .u8 (b2.toNat : Int), .int .u8 (b3.toNat : Int)] by unfold sumV; rw [hle]; rfl)
        have HC4 : Hid (∀ w1 : World, (convert 41 9 (.slice (some ⟨w1.heap.size, 0, none⟩) 4 4)).run Tryd.prog (w1.alloc (.cells #[.int .u8 (b0.toNat : Int), .int .u8 (b1.toNat : Int), .int .u8 (b2.toNat : Int), .int .u8 (b3.toNat : Int)] 71)) = .ok (.string ⟨(le4 cc).toArray⟩) (w1.alloc (.cells #[.int .u8 (b0.toNat : Int), .int .u8 (b1.toNat : Int), .int .u8 (b2.toNat : Int), .int .u8 (b3.toNat : Int)] 71))) := Lib.hid fun w1 => by
          have hcs : Cells (w1.alloc (.cells #[.int .u8 (b0.toNat : Int), .int .u8 (b1.toNat : Int), .int .u8 (b2.toNat : Int), .int .u8 (b3.toNat : Int)] 71)) w1.heap.size 71 ((le4 cc).map bv) := cells_new w1 _ _ _ (by rw [hle]; rfl)
          exact string_back (P := Tryd.prog) (cap := 4) (n := 4) Tryd.underlying41 Tryd.underlying5 Tryd.underlying9 hcs (le4_length cc)
        clear hcc hle
        generalize hq : big n 2 ++ cat ss = q at *
        have HQ := Lib.hid hq
        have hap := bytes_app q ⟨(le4 cc).toArray⟩
        have hqs : (ByteArray.mk q.toArray).size ≤ 4098 := by show q.toArray.size ≤ _; rw [List.size_toArray, ← hq, List.length_append, big_length, HCL.out]; omega
        have hls : (ByteArray.mk (le4 cc).toArray).size = 4 := by show (le4 cc).toArray.size = 4; rw [List.size_toArray, le4_length]
        clear hq
        go_wp2_with fail
        refine (HSM.out w1 HL1.out).mono ?_
        rintro e w2 ⟨rfl, hb2⟩
        rw [HSV.out]
        have HL2 := Lib.hid (HL1.out.trans (hb2.mono HL1.out.size))
        have hcv := HC4.out w2
        clear hb2
        go_wp2_with fail
        go_returns
        exact ⟨ret_val HV.out.symm, HL2.out.alloc HL2.out.size _⟩

/-- payload, of the bytes of a frame with which a text begins. -/
theorem payload_at (x : List UInt8) (f : ByteArray) (w : World) (hf : f.data.toList = x.take (6 + flen x)) (hx : 6 + flen x ≤ x.length) (hl : flen x ≤ 4096) :
    Calls Tryd.prog 26 #[.string f] w fun e w' => e = .returned (.string ⟨(payload x).toArray⟩) ∧ Below w.heap.size w w' := by
  have hs : f.size = 6 + flen x := by rw [size_list, hf, List.length_take]; omega
  have e : f.extract 2 (f.size - 4) = ⟨(payload x).toArray⟩ := ba_ext (by
    rw [ext_list, hf, hs, List.take_take, Nat.min_eq_left (by omega)]
    show _ = payload x
    unfold payload
    rw [List.drop_take, show 6 + flen x - 4 - 2 = flen x by omega])
  have h := payload_any f w (by omega) (by omega)
  rw [e] at h
  exact h

/-- What is good of the values where Open answers. -/
def openGood (s p : ByteArray) (n : Nat) : Nat → Value → World → Prop
  | 0, v, _ => v = .string s
  | 1, v, _ => v = .int .i64 ((6 + n : Nat) : Int)
  | 2, v, _ => v = .string (s.extract 0 (6 + n))
  | 3, v, _ => v = .string p
  | 4, v, _ => v = .string s
  | 5, v, _ => v = .int .i64 ((6 + n : Nat) : Int)
  | 6, v, _ => v = .string (s.extract (6 + n) s.size)
  | 7, v, _ => v = .string (s.extract (6 + n) s.size)
  | 8, v, _ => v = .string p
  | 9, v, _ => v = .string (s.extract (6 + n) s.size)
  | _, v, _ => v = .int .i64 0
theorem open_good_any {s p : ByteArray} {n j : Nat} {v : Value} {w w' : World} (h : openGood s p n j v w) : openGood s p n j v w' := by
  match j, h with
  | 0, h | 1, h | 2, h | 3, h | 4, h | 5, h | 6, h | 7, h | 8, h | 9, h => exact h
  | _ + 10, h => exact h

set_option maxHeartbeats 2000000 in
theorem all_any (s : ByteArray) (w : World) (hs : s.size ≤ 2000000) (hT : Tab w) :
    Calls Tryd.prog 15 #[.string s] w fun e w' => ∃ v, e = .returned (.tuple #[v, .int .i64 ((fr s.data.toList).2 : Nat)]) ∧ Txt w' w.heap.size v (texts (fr s.data.toList).1) ∧ Below w.heap.size w w' := by
  have hz := toList_size s
  have HTT := Lib.hid hT
  clear hT
  go_enter Tryd.func15, Tryd.ntmps15
  go_wp2_with fail
  go_loopw [4, 5] (fun out at_ wr => ∃ (k : Nat) (ps : List (List UInt8)), k ≤ s.size ∧ ps.length ≤ k ∧ at_ = .int .i64 (k : Int) ∧ Txt wr w.heap.size out (texts ps) ∧ fr s.data.toList = (ps ++ (fr (s.data.toList.drop k)).1, k + (fr (s.data.toList.drop k)).2) ∧ Below w.heap.size w wr) (fun _ at_ _ => s.size - (intOf at_).toNat)
  case atStart => exact ⟨0, [], Nat.zero_le _, Nat.zero_le _, rfl, txt_nil w _, by simp, Below.refl _ _⟩
  case round =>
    obtain ⟨k, ps, hk, hpk, rfl, ht, hfr, hb⟩ := hrel
    have hx : (s.extract k s.size).data.toList = s.data.toList.drop k := by
      rw [ext_list, List.take_of_length_le (by omega)]
    have hxs : (s.extract k s.size).size ≤ 2000000 := by rw [ByteArray.size_extract]; omega
    have HT := Lib.hid ht
    have HFR := Lib.hid hfr
    have HB := Lib.hid hb
    have hop : firstE (s.extract k s.size) = if err (s.data.toList.drop k) = 0 then .tuple #[.int .i64 (6 + flen (s.data.toList.drop k) : Nat), .int .i64 0] else .tuple #[.int .i64 0, .int .i64 (err (s.data.toList.drop k))] := by unfold firstE; rw [hx]
    have HO : Hid (∀ wr, Below w.heap.size w wr → Calls Tryd.prog 25 #[.string (s.extract k s.size)] wr fun e w' => e = .returned (firstE (s.extract k s.size)) ∧ Below wr.heap.size wr w') := Lib.hid fun wr hb => first_any _ wr hxs (HTT.out.later hb)
    clear ht hfr hb
    by_cases he : err (s.data.toList.drop k) = 0
    · rw [if_pos he] at hop
      obtain ⟨_, hp1, hp2, hp3⟩ := frm_of_err _ he
      have HP : Hid (∀ wr, Calls Tryd.prog 26 #[.string (s.extract k (k + (6 + flen (s.data.toList.drop k))))] wr fun e w' => e = .returned (.string ⟨(payload (s.data.toList.drop k)).toArray⟩) ∧ Below wr.heap.size wr w') := Lib.hid fun wr =>
        payload_at (s.data.toList.drop k) _ wr (by rw [ext_list, List.drop_take, Nat.add_sub_cancel_left]) hp3 hp2
      rw [List.length_drop, hz] at hp3
      have HY := Lib.hid (fr_yes he)
      have HOP := Lib.hid hop
      have HDD := Lib.hid (show s.data.toList.drop (k + (6 + flen (s.data.toList.drop k))) = (s.data.toList.drop k).drop (6 + flen (s.data.toList.drop k)) by rw [List.drop_drop])
      generalize flen (s.data.toList.drop k) = n at *
      generalize payload (s.data.toList.drop k) = p at *
      have hn1 : (k : Int) + (6 + n : Nat) ≤ (s.size : Int) := by omega
      have hn2 : ((k : Int) + (6 + n : Nat)).toNat = k + (6 + n) := by omega
      clear hop he hx hxs
      go_wp2_with fail
      refine (HO.out _ HB.out).mono ?_
      rintro e w2 ⟨rfl, hb2⟩
      rw [HOP.out]
      have HT2 := Lib.hid (HT.out.later hb2)
      have HB2 := Lib.hid (HB.out.trans (hb2.mono HB.out.size))
      clear hb2
      go_wp2_with fail
      refine (HP.out w2).mono ?_
      rintro e w3 ⟨rfl, hb3⟩
      have HTa := Lib.hid (HT2.out.later hb3)
      have HBa := Lib.hid (HB2.out.trans (hb3.mono HB2.out.size))
      clear hb3
      have HT3 := Lib.hid (HTa.out.later (below_alloc w3 (.cells #[.string ⟨p.toArray⟩] 9)))
      have HB3 := Lib.hid (HBa.out.alloc HBa.out.size (.cells #[.string ⟨p.toArray⟩] 9))
      have hpl : (texts ps).length ≤ 1000000000 := by rw [texts_length]; omega
      go_wp2_with (at_builtin
                   refine wpList_text rfl (.tmp 19) (.tmp 27) rfl w.heap.size _ (texts ps) ⟨p.toArray⟩ ⟨w3.heap.size, 0, none⟩ 1 rfl HT3.out rfl (by rw [cell_of_row _ _ _ _ _ _ (heap_alloc_new w3 _)]; rfl) hpl HB3.out.size ?_
                   intro v' w4 ht4 hg4 hat4
                   have HT4 := Lib.hid ht4
                   have HB4 := Lib.hid (HB3.out.grown hg4 HB3.out.size fun i hi => (HT3.out.lt i hi).1)
                   clear ht4 hg4 hat4)
      go_roundw
      case rel =>
        refine ⟨k + (6 + n), ps ++ [p], by omega, by rw [List.length_append, List.length_singleton]; omega, by go_num, by rw [texts_app]; exact HT4.out, ?_, HB4.out⟩
        rw [HDD.out, HFR.out, HY.out]
        simp [Nat.add_assoc]
      case measure => simp [intOf]; omega
    · rw [if_neg he] at hop
      have HN := Lib.hid (fr_no he)
      have HOP := Lib.hid hop
      have hne : (err (s.data.toList.drop k) != 0) = true := by simpa using he
      generalize err (s.data.toList.drop k) = x at *
      clear hop he hx hxs
      go_wp2_with fail
      refine (HO.out _ HB.out).mono ?_
      rintro e w2 ⟨rfl, hb2⟩
      rw [HOP.out]
      have HT2 := Lib.hid (HT.out.later hb2)
      have HB2 := Lib.hid (HB.out.trans (hb2.mono HB.out.size))
      clear hb2
      go_wp2_with fail
      go_returns
      have hfin : fr s.data.toList = (ps, k) := by rw [HFR.out, HN.out]; simp
      rw [hfin]
      exact ⟨_, rfl, HT2.out, HB2.out⟩

/-- The landed code does what is asked. -/
theorem code : Does := {
  seals := fun A ss c w hs hn hl hc hT => seal_any A ss c w hs hn hl hc hT
  all := fun s w hs hT => all_any s w hs hT
  }
end Go.Proofs.YtfdhckfpkhoheaaDoor.Frame
