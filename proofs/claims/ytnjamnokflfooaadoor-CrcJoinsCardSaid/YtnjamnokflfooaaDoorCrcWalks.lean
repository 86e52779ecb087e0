/-
  The walks of layer 1 (crc): what each function of the code, and of the document's own answer, gives. Conditions: the table of half bytes holds what its initialiser lays.
-/
import Derived.Test.YtnjamnokflfooaaDoorCrcMath
import Derived.Test.YtnjamnokflfooaaDoorRows
import Derived.WalkKit
import Derived.ProofKit
import Derived.OpenShut
import Derived.WalkLawsBesides
import Derived.WalkSpells
import Derived.Handy
import Derived.Lib.LaidTab
import Derived.Lib.Hide
namespace Go.Proofs.YtnjamnokflfooaaDoor.Crc
open Go.RowKit

theorem gTab : Tryd.prog.globalNamed "remuda/crc.halves" = some 0 := by kernel_rfl

/-- The table holds its numbers. -/
def Tab (w : World) : Prop := 0 < w.heap.size ∧ ∀ i, i < 16 → w.cell? ⟨0, i, none⟩ = some (.int .u32 (tab.getD i 0))
theorem Tab.cell {w : World} (h : Tab w) (i : Nat) (hi : i < 16) : w.cell? ⟨0, i, none⟩ = some (.int .u32 (tab.getD i 0)) := h.2 i hi
theorem Tab.below {B : Nat} {w w' : World} (h : Tab w) (hB : 0 < B) (hb : Below B w w') : Tab w' :=
  ⟨Nat.lt_of_lt_of_le h.1 hb.size, fun i hi => (hb.cell (p := ⟨0, i, none⟩) hB).trans (h.2 i hi)⟩
theorem Tab.later {w w' : World} (h : Tab w) (hb : Below w.heap.size w w') : Tab w' := h.below h.1 hb
theorem tab_of {w : World} (h : Lib.TabIs Tryd.prog w "remuda/crc.halves" .u32 tab) : Tab w := by
  have hc : ∀ i, i < 16 → w.cell? ⟨0, i, none⟩ = some (.int .u32 (tab.getD i 0)) := fun i hi => Lib.TabIs.cell h gTab i (by rw [tab_length]; exact hi)
  refine ⟨?_, hc⟩
  have h0 := hc 0 (by omega)
  rcases Nat.lt_or_ge 0 w.heap.size with hlt | hge
  · exact hlt
  · exfalso
    rw [show w.cell? ⟨0, 0, none⟩ = none by simp [World.cell?, Array.getElem?_eq_none hge]] at h0
    cases h0

theorem bits_and32 (a b : BitVec 32) : bits .and .u32 (a.toNat : Int) (b.toNat : Int) = ((a &&& b).toNat : Int) := by
  show IntKind.u32.wrap ((BitVec.ofInt 32 (a.toNat : Int) &&& BitVec.ofInt 32 (b.toNat : Int)).toNat : Int) = _
  rw [BitVec.ofInt_natCast, BitVec.ofInt_natCast, BitVec.ofNat_toNat, BitVec.ofNat_toNat, BitVec.setWidth_eq, BitVec.setWidth_eq, IntKind.wrap_u32']
  have := (a &&& b).isLt
  omega
theorem bits_xor32 (a b : BitVec 32) : bits .xor .u32 (a.toNat : Int) (b.toNat : Int) = ((a ^^^ b).toNat : Int) := by
  show IntKind.u32.wrap ((BitVec.ofInt 32 (a.toNat : Int) ^^^ BitVec.ofInt 32 (b.toNat : Int)).toNat : Int) = _
  rw [BitVec.ofInt_natCast, BitVec.ofInt_natCast, BitVec.ofNat_toNat, BitVec.ofNat_toNat, BitVec.setWidth_eq, BitVec.setWidth_eq, IntKind.wrap_u32']
  have := (a ^^^ b).isLt
  omega
theorem shr32 (a : BitVec 32) (n : Nat) : (a.toNat : Int) / (2 ^ n : Nat) = ((a >>> n).toNat : Int) := by
  rw [BitVec.toNat_ushiftRight, Nat.shiftRight_eq_div_pow]; rfl

theorem ret_int {k : IntKind} {a b : Int} (h : a = b) : Ending.returned (.int k a) = .returned (.int k b) := by rw [h]

theorem ret_val {a b : Value} (h : a = b) : Ending.returned a = .returned b := by rw [h]

theorem half_any (c : BitVec 32) (w : World) (hT : Tab w) :
    Calls Tryd.prog 14 #[.int .u32 (c.toNat : Int)] w fun e w' => e = .returned (.int .u32 ((sts 4 c).toNat : Int)) ∧ w = w' := by
  have hb' : bits .and .u32 (c.toNat : Int) 15 = ((c.toNat % 16 : Nat) : Int) := by
    have e : (BitVec.ofNat 32 (c.toNat % 16)).toNat = c.toNat % 16 := by rw [BitVec.toNat_ofNat]; omega
    have h := bits_and32 c 15#32
    rw [low_of, e] at h
    exact h
  have hfin : bits .xor .u32 ((c.toNat : Int) / 16) ((sts 4 (BitVec.ofNat 32 (c.toNat % 16))).toNat : Int) = ((sts 4 c).toNat : Int) := by
    rw [sts4_tab c, ← low_of, ← bits_xor32, ← shr32 c 4]; rfl
  have hn : c.toNat % 16 < 16 := by omega
  have hc := hT.cell (c.toNat % 16) hn
  rw [tab_sts ⟨c.toNat % 16, hn⟩] at hc
  generalize (sts 4 (BitVec.ofNat 32 (c.toNat % 16))).toNat = v at hc hfin
  generalize c.toNat % 16 = n at hn hb' hc
  have HF := Lib.hid hfin
  clear hfin hT
  go_enter Tryd.func14, Tryd.ntmps14
  go_wp2
  go_ret
  exact ⟨ret_int HF.out, rfl⟩

theorem take_snoc (s : ByteArray) (k : Nat) (h : k < s.size) : s.data.toList.take (k + 1) = s.data.toList.take k ++ [s[k]] := by
  rw [List.take_succ_eq_append_getElem (by simpa using h)]; rfl
theorem by32_cast (b : UInt8) : (b.toNat : Int) = ((by32 b).toNat : Int) := by
  unfold by32; rw [BitVec.toNat_ofNat]; have := b.toNat_lt; omega

set_option maxHeartbeats 400000 in
theorem text_any (c : BitVec 32) (s : ByteArray) (w : World) (hs : s.size ≤ maxLen) (hT : Tab w) :
    Calls Tryd.prog 13 #[.int .u32 (c.toNat : Int), .string s] w fun e w' => e = .returned (.int .u32 ((sl c s.data.toList).toNat : Int)) ∧ w = w' := by
  unfold maxLen at hs
  go_enter Tryd.func13, Tryd.ntmps13
  go_wp2
  go_loop [0, 5] (fun c' i => ∃ k : Nat, k ≤ s.size ∧ i = .int .i64 k ∧ c' = .int .u32 ((sl c (s.data.toList.take k)).toNat : Int)) (fun _ i => s.size - (intOf i).toNat)
  case atStart => exact ⟨0, Nat.zero_le _, rfl, rfl⟩
  case round =>
    obtain ⟨k, hk, rfl, rfl⟩ := hrel
    by_cases hlt : k < s.size
    · have hts := take_snoc s k hlt
      have hh := halves (sl c (s.data.toList.take k)) s[k]
      have hx : bits .xor .u32 ((sl c (s.data.toList.take k)).toNat : Int) ((s[k].toNat : Int) % 4294967296) = ((sl c (s.data.toList.take k) ^^^ by32 s[k]).toNat : Int) := by
        rw [show ((s[k].toNat : Int) % 4294967296) = (s[k].toNat : Int) by have := s[k].toNat_lt; omega, by32_cast, bits_xor32]
      have H1 := Lib.hid hts
      have H2 := Lib.hid hh
      have H3 := Lib.hid hx
      clear hts hh hx
      go_wp2_with fail
      rw [H3.out]
      refine (half_any _ _ hT).mono ?_
      rintro e w' ⟨rfl, rfl⟩
      go_wp2_with fail
      refine (half_any _ _ hT).mono ?_
      rintro e w' ⟨rfl, rfl⟩
      rw [H2.out]
      go_wp2_with fail
      go_round
      case rel => exact ⟨k + 1, by omega, by go_num, by rw [H1.out, sl_snoc]⟩
      case measure => simp [intOf]; omega
    · go_wp2
      go_ret
      exact ⟨ret_int (by rw [List.take_of_length_le (by simp; omega)]), rfl⟩

/-- All bytes of texts, one behind the other. -/
def cat (ss : List ByteArray) : List UInt8 := (ss.map (·.data.toList)).flatten
theorem cat_nil : cat [] = [] := rfl
theorem cat_append (a b : List ByteArray) : cat (a ++ b) = cat a ++ cat b := by unfold cat; simp
theorem cat_one (s : ByteArray) : cat [s] = s.data.toList := by unfold cat; simp
theorem cat_take (ss : List ByteArray) (k : Nat) (h : k < ss.length) : cat (ss.take (k + 1)) = cat (ss.take k) ++ ss[k].data.toList := by
  rw [List.take_succ_eq_append_getElem h, cat_append, cat_one]

theorem cat_take_le (ss : List ByteArray) (k : Nat) : (cat (ss.take k)).length ≤ (cat ss).length := by
  have h : cat ss = cat (ss.take k) ++ cat (ss.drop k) := by rw [← cat_append, List.take_append_drop]
  rw [h, List.length_append]; omega
theorem bytes_app (l : List UInt8) (s : ByteArray) : ({ data := l.toArray } : ByteArray) ++ s = { data := (l ++ s.data.toList).toArray } := by
  apply ByteArray.ext
  rw [ByteArray.data_append]
  apply Array.ext'
  simp

/-- The slice whose first cell is at A holds these texts. -/
def Strs (w : World) (A : Option Addr) (ss : List ByteArray) : Prop := ∀ k (h : k < ss.length), ∃ ad, A = some ad ∧ w.cell? (ad.add k) = some (.string ss[k]) ∧ ss[k].size ≤ 140737488355328

theorem not32 (a : BitVec 32) : bits .xor .u32 IntKind.u32.max (a.toNat : Int) = ((~~~a).toNat : Int) := by
  have h := bits_xor32 4294967295#32 a
  have e : 4294967295#32 ^^^ a = ~~~a := by
    have : 4294967295#32 = BitVec.allOnes 32 := by decide
    rw [this, BitVec.allOnes_xor]
  rw [e] at h
  exact h
theorem xor_ones (a : BitVec 32) : bits .xor .u32 (a.toNat : Int) 4294967295 = ((~~~a).toNat : Int) := by
  have h := bits_xor32 a 4294967295#32
  have e : a ^^^ 4294967295#32 = ~~~a := by
    have : 4294967295#32 = BitVec.allOnes 32 := by decide
    rw [this, BitVec.xor_allOnes]
  rw [e] at h
  exact h

set_option maxHeartbeats 400000 in
theorem more_any (c : BitVec 32) (A : Option Addr) (ss : List ByteArray) (cap : Nat) (w : World) (hs : Strs w A ss) (hl : ss.length ≤ maxLen) (hT : Tab w) :
    Calls Tryd.prog 12 #[.int .u32 (c.toNat : Int), .slice A ss.length cap] w fun e w' => e = .returned (.int .u32 ((more c (cat ss)).toNat : Int)) ∧ w = w' := by
  unfold maxLen at hl
  go_enter Tryd.func12, Tryd.ntmps12
  go_wp2
  go_loop [5, 12] (fun c' i => ∃ k : Nat, k ≤ ss.length ∧ i = .int .i64 k ∧ c' = .int .u32 ((sl (~~~c) (cat (ss.take k))).toNat : Int)) (fun _ i => ss.length - (intOf i).toNat)
  case atStart => exact ⟨0, Nat.zero_le _, rfl, congrArg (Value.int .u32) (not32 c)⟩
  case round =>
    obtain ⟨k, hk, rfl, rfl⟩ := hrel
    by_cases hlt : k < ss.length
    · obtain ⟨ad, rfl, hc, hz⟩ := hs k hlt
      have HT := Lib.hid (cat_take ss k hlt)
      generalize ss[k] = s at hc hz HT
      go_wp2_with fail
      refine (text_any _ _ _ (Nat.le_trans hz (by decide)) hT).mono ?_
      rintro e w' ⟨rfl, rfl⟩
      go_wp2_with fail
      go_round
      case rel => exact ⟨k + 1, by omega, by go_num, by rw [HT.out, sl_append]⟩
      case measure => simp [intOf]; omega
    · go_wp2
      go_ret
      refine ⟨ret_int ?_, rfl⟩
      rw [not32, List.take_of_length_le (by omega)]; rfl

theorem sum_any (A : Option Addr) (ss : List ByteArray) (cap : Nat) (w : World) (hs : Strs w A ss) (hl : ss.length ≤ maxLen) (hT : Tab w) :
    Calls Tryd.prog 9 #[.slice A ss.length cap] w fun e w' => e = .returned (.int .u32 ((more 0#32 (cat ss)).toNat : Int)) ∧ w = w' := by
  go_enter Tryd.func9, Tryd.ntmps9
  go_wp2_with fail
  refine (more_any 0#32 A ss cap w hs hl hT).mono ?_
  rintro e w' ⟨rfl, rfl⟩
  go_wp2_with fail
  go_ret
  exact ⟨rfl, rfl⟩

set_option maxHeartbeats 400000 in
theorem joined_any (A : Option Addr) (ss : List ByteArray) (cap : Nat) (w : World) (hs : Strs w A ss) (hl : (cat ss).length ≤ 3000) (hn : ss.length ≤ 60) :
    Calls Tryd.prog 11 #[.slice A ss.length cap] w fun e w' => e = .returned (.string ⟨(cat ss).toArray⟩) ∧ w = w' := by
  go_enter Tryd.func11, Tryd.ntmps11
  go_wp2
  go_loop [3, 4] (fun s i => ∃ k : Nat, k ≤ ss.length ∧ i = .int .i64 k ∧ s = .string ⟨(cat (ss.take k)).toArray⟩) (fun _ i => ss.length - (intOf i).toNat)
  case atStart => exact ⟨0, Nat.zero_le _, rfl, rfl⟩
  case round =>
    obtain ⟨k, hk, rfl, rfl⟩ := hrel
    by_cases hlt : k < ss.length
    · obtain ⟨ad, rfl, hc, hz⟩ := hs k hlt
      have HT := Lib.hid (cat_take ss k hlt)
      generalize ss[k] = s at hc hz HT
      have hcl : (cat (ss.take (k + 1))).length ≤ (cat ss).length := cat_take_le ss _
      rw [HT.out, List.length_append] at hcl
      have hsz : s.data.toList.length = s.size := Array.length_toList
      have hb : (cat (ss.take k)).length + s.size ≤ 3000 := by omega
      clear hcl hsz
      go_wp2_with fail
      go_round
      case rel => exact ⟨k + 1, by omega, by go_num, by rw [HT.out, bytes_app]⟩
      case measure => simp [intOf]; omega
    · go_wp2
      go_ret
      exact ⟨ret_val (by rw [List.take_of_length_le (by omega)]; rfl), rfl⟩

theorem shr_bit (b : UInt8) (k : Nat) : bits .and .u32 ((b.toNat : Int) / 2 ^ k) 1 = ((bitOf b k).toNat : Int) := by
  have h := bits_and32 (by32 b >>> k) 1#32
  rw [← shr32, ← by32_cast] at h
  exact h

theorem shr1 (a : BitVec 32) : (a.toNat : Int) / (2 : Int) = ((a >>> 1).toNat : Int) := shr32 a 1
theorem test_is (c : BitVec 32) (b : UInt8) (m : Nat) :
    (bits .and .u32 ((rn c b m).toNat : Int) 1 != bits .and .u32 ((b.toNat : Int) % 4294967296 / 2 ^ m) 1) = decide (rn c b m &&& 1#32 ≠ bitOf b m) := by
  have h1 : bits .and .u32 ((rn c b m).toNat : Int) 1 = ((rn c b m &&& 1#32).toNat : Int) := bits_and32 (rn c b m) 1#32
  rw [h1, show ((b.toNat : Int) % 4294967296) = (b.toNat : Int) by have := b.toNat_lt; omega, shr_bit]
  by_cases h : rn c b m &&& 1#32 = bitOf b m
  · simp [h]
  · have h2 : ((rn c b m &&& 1#32).toNat : Int) ≠ ((bitOf b m).toNat : Int) := fun e => h (BitVec.eq_of_toNat_eq (Int.ofNat_inj.1 e))
    rw [bne_iff_ne.2 h2, decide_eq_true h]
theorem step_yes (c : BitVec 32) (b : UInt8) (m : Nat)
    (h : (bits .and .u32 ((rn c b m).toNat : Int) 1 != bits .and .u32 ((b.toNat : Int) % 4294967296 / 2 ^ m) 1) = true) :
    bits .xor .u32 (((rn c b m).toNat : Int) / 2) 3988292384 = ((rn c b (m + 1)).toNat : Int) := by
  rw [test_is] at h
  rw [shr1, rn, stb, if_pos (of_decide_eq_true h)]
  exact bits_xor32 (rn c b m >>> 1) 3988292384#32
theorem step_no (c : BitVec 32) (b : UInt8) (m : Nat)
    (h : (bits .and .u32 ((rn c b m).toNat : Int) 1 != bits .and .u32 ((b.toNat : Int) % 4294967296 / 2 ^ m) 1) = false) :
    (((rn c b m).toNat : Int) / 2) = ((rn c b (m + 1)).toNat : Int) := by
  rw [test_is] at h
  rw [shr1, rn, stb, if_neg (of_decide_eq_false h)]

set_option maxHeartbeats 400000 in
theorem ref_more_any (c : BitVec 32) (s : ByteArray) (w : World) (hs : s.size ≤ 3000) :
    Calls Tryd.prog 10 #[.int .u32 (c.toNat : Int), .string s] w fun e w' => e = .returned (.int .u32 ((more c s.data.toList).toNat : Int)) ∧ w = w' := by
  go_enter Tryd.func10, Tryd.ntmps10
  go_wp2
  go_loop [5, 6] (fun c' i => ∃ k : Nat, k ≤ s.size ∧ i = .int .i64 k ∧ c' = .int .u32 ((sl (~~~c) (s.data.toList.take k)).toNat : Int)) (fun _ i => s.size - (intOf i).toNat)
  case atStart => exact ⟨0, Nat.zero_le _, rfl, congrArg (Value.int .u32) (xor_ones c)⟩
  case round =>
    obtain ⟨k, hk, rfl, rfl⟩ := hrel
    by_cases hlt : k < s.size
    · have H1 := Lib.hid (take_snoc s k hlt)
      have H2 := Lib.hid (rn_byte (sl (~~~c) (s.data.toList.take k)) s[k])
      have hx : ((s[k].toNat : Int) % 4294967296) = (s[k].toNat : Int) := by have := s[k].toNat_lt; omega
      have H3 := Lib.hid hx
      clear hx
      go_wp2
      go_loop [5, 7] (fun c' j => ∃ m : Nat, m ≤ 8 ∧ j = .int .i64 m ∧ c' = .int .u32 ((rn (sl (~~~c) (s.data.toList.take k)) s[k] m).toNat : Int)) (fun _ j => 8 - (intOf j).toNat)
      case atStart => exact ⟨0, Nat.zero_le _, rfl, rfl⟩
      case round =>
        obtain ⟨m, hm, rfl, rfl⟩ := hrel
        by_cases hlm : m < 8
        · go_wp2
          all_goals
            go_round
            case rel => exact ⟨m + 1, by omega, by go_num, by first | rw [step_yes _ _ _ ‹_›] | rw [step_no _ _ _ ‹_›]⟩
            case measure => simp [intOf]; omega
        · obtain rfl : m = 8 := by omega
          rw [H2.out]
          go_wp2
          go_round
          case rel => exact ⟨k + 1, by omega, by go_num, by rw [H1.out, sl_snoc]⟩
          case measure => simp [intOf]; omega
    · go_wp2
      go_ret
      refine ⟨ret_int ?_, rfl⟩
      rw [xor_ones, List.take_of_length_le (by simp; omega)]; rfl

set_option maxHeartbeats 400000 in
theorem long_no (A : Option Addr) (ss : List ByteArray) (cap : Nat) (w : World) (hs : Strs w A ss) (hl : (cat ss).length ≤ 3000) (hn : ss.length ≤ 60) :
    Calls Tryd.prog 8 #[.slice A ss.length cap] w fun e w' => e = .returned (.bool false) ∧ w = w' := by
  go_enter Tryd.func8, Tryd.ntmps8
  go_wp2
  go_loop [3, 11] (fun n i => ∃ k : Nat, k ≤ ss.length ∧ i = .int .i64 k ∧ n = .int .i64 ((cat (ss.take k)).length : Nat)) (fun _ i => ss.length - (intOf i).toNat)
  case atStart => exact ⟨0, Nat.zero_le _, rfl, rfl⟩
  case round =>
    obtain ⟨k, hk, rfl, rfl⟩ := hrel
    by_cases hlt : k < ss.length
    · obtain ⟨ad, rfl, hc, hz⟩ := hs k hlt
      have HT := Lib.hid (cat_take ss k hlt)
      generalize ss[k] = s at hc hz HT
      have hcl : (cat (ss.take (k + 1))).length ≤ (cat ss).length := cat_take_le ss _
      rw [HT.out, List.length_append] at hcl
      have hsz : s.data.toList.length = s.size := Array.length_toList
      have hb : (cat (ss.take k)).length + s.size ≤ 3000 := by omega
      clear hcl hsz
      go_wp2
      go_round
      case rel => exact ⟨k + 1, by omega, by go_num, by rw [HT.out, List.length_append, Array.length_toList, Int.natCast_add]; rfl⟩
      case measure => simp [intOf]; omega
    · go_wp2
      go_ret
      exact ⟨rfl, rfl⟩
set_option maxHeartbeats 400000 in
theorem long_yes (A : Option Addr) (ss : List ByteArray) (cap : Nat) (w : World) (hs : Strs w A ss) (hm : ss.length ≤ maxLen) (h : 60 < ss.length ∨ 3000 < (cat ss).length) :
    Calls Tryd.prog 8 #[.slice A ss.length cap] w fun e w' => e = .returned (.bool true) ∧ w = w' := by
  unfold maxLen at hm
  by_cases h60 : 60 < ss.length
  · clear h
    go_enter Tryd.func8, Tryd.ntmps8
    go_wp2
    go_ret
    exact ⟨rfl, rfl⟩
  · have h3 : 3000 < (cat ss).length := by omega
    clear h
    go_enter Tryd.func8, Tryd.ntmps8
    go_wp2
    go_loop [3, 11] (fun n i => ∃ k : Nat, k ≤ ss.length ∧ i = .int .i64 k ∧ n = .int .i64 ((cat (ss.take k)).length : Nat) ∧ (cat (ss.take k)).length ≤ 3000) (fun _ i => ss.length - (intOf i).toNat)
    case atStart => exact ⟨0, Nat.zero_le _, rfl, rfl, by simp [cat]⟩
    case round =>
      obtain ⟨k, hk, rfl, rfl, hle⟩ := hrel
      by_cases hlt : k < ss.length
      · obtain ⟨ad, rfl, hc, hz⟩ := hs k hlt
        have HT := Lib.hid (cat_take ss k hlt)
        generalize ss[k] = s at hc hz HT
        by_cases hb : (cat (ss.take k)).length + s.size ≤ 3000
        · go_wp2
          go_round
          case rel => exact ⟨k + 1, by omega, by go_num, by rw [HT.out, List.length_append, Array.length_toList, Int.natCast_add]; rfl, by rw [HT.out, List.length_append, Array.length_toList]; exact hb⟩
          case measure => simp [intOf]; omega
        · go_wp2
          go_ret
          exact ⟨rfl, rfl⟩
      · exfalso
        rw [List.take_of_length_le (by omega)] at hle
        omega

theorem strs_lit (w : World) (ss : List ByteArray) (T : TypeId) (h : ∀ s ∈ ss, s.size ≤ 140737488355328) : Strs (w.alloc (.cells (ss.map Value.string).toArray T)) (some ⟨w.heap.size, 0, none⟩) ss := by
  intro k hk
  refine ⟨_, rfl, ?_, h _ (List.getElem_mem hk)⟩
  have h1 := heap_alloc_new w (.cells (ss.map Value.string).toArray T)
  have h2 := cell_of_row _ _ k _ _ _ h1
  have e : (⟨w.heap.size, 0, none⟩ : Addr).add k = ⟨w.heap.size, k, none⟩ := by
    unfold Addr.add
    by_cases h0 : k = 0
    · subst h0; rfl
    · rw [if_neg h0, Nat.zero_add]
  rw [e, h2]
  simp [hk]
theorem strs_nil (w : World) (A : Option Addr) : Strs w A [] := fun k hk => absurd hk (by simp)
theorem Strs.keep {w w' : World} {A : Option Addr} {ss : List ByteArray} (h : Strs w A ss) (hk : ∀ ad, A = some ad → ∀ k, k < ss.length → w'.cell? (ad.add k) = w.cell? (ad.add k)) : Strs w' A ss := by
  intro k hlt
  obtain ⟨ad, e, hc, hz⟩ := h k hlt
  exact ⟨ad, e, (hk ad e k hlt).trans hc, hz⟩
theorem block_of_cell {w : World} {p : Addr} {v : Value} (h : w.cell? p = some v) : p.block < w.heap.size := by
  rcases Nat.lt_or_ge p.block w.heap.size with hlt | hge
  · exact hlt
  · exfalso
    rw [show w.cell? p = none by simp [World.cell?, Array.getElem?_eq_none hge]] at h
    cases h
theorem Strs.later {w w' : World} {A : Option Addr} {ss : List ByteArray} (h : Strs w A ss) (hb : Below w.heap.size w w') : Strs w' A ss := by
  intro k hlt
  obtain ⟨ad, e, hc, hz⟩ := h k hlt
  exact ⟨ad, e, (hb.cell (block_of_cell hc)).trans hc, hz⟩

def t1 : List ByteArray := [⟨#[49, 50, 51, 52, 53, 54, 55, 56, 57]⟩]
def t2 : List ByteArray := [⟨#[49, 50, 51, 52]⟩, ⟨#[53, 54, 55, 56, 57]⟩]
theorem sum_t1 : ((more 0#32 (cat t1)).toNat : Int) = 3421780262 := by decide +kernel
theorem sum_t2 : ((more 0#32 (cat t2)).toNat : Int) = 3421780262 := by decide +kernel
theorem sum_t0 : ((more 0#32 (cat [])).toNat : Int) = 0 := by decide +kernel
theorem size_t1 : ∀ s ∈ t1, s.size ≤ 140737488355328 := by intro s hs; simp [t1] at hs; subst hs; decide
theorem size_t2 : ∀ s ∈ t2, s.size ≤ 140737488355328 := by intro s hs; simp [t2] at hs; rcases hs with rfl | rfl <;> decide

theorem awake_any (w : World) (hT : Tab w) :
    Calls Tryd.prog 7 #[] w fun e w' => e = .returned (.bool true) ∧ Below w.heap.size w w' := by
  have hb1 : Below w.heap.size w (w.alloc (.cells (t1.map Value.string).toArray 9)) := (Below.refl _ _).alloc (Nat.le_refl _) _
  have hT1 := hT.later hb1
  have c1 := sum_any (some ⟨w.heap.size, 0, none⟩) t1 1 _ (strs_lit w t1 9 size_t1) (by decide) hT1
  rw [sum_t1] at c1
  generalize hw1 : w.alloc (.cells (t1.map Value.string).toArray 9) = w1 at hb1 hT1 c1
  have hsz : w1.heap.size = w.heap.size + 1 := by rw [← hw1]; simp
  have hb2 : Below w.heap.size w (w1.alloc (.cells (t2.map Value.string).toArray 9)) := hb1.alloc hb1.size _
  have hT2 := hT.later hb2
  have c2 := sum_any (some ⟨w1.heap.size, 0, none⟩) t2 2 _ (strs_lit w1 t2 9 size_t2) (by decide) hT2
  rw [sum_t2, hsz] at c2
  have c3 := sum_any none [] 0 _ (strs_nil (w1.alloc (.cells (t2.map Value.string).toArray 9)) none) (by decide) hT2
  rw [sum_t0] at c3
  have H1 := Lib.hid c1
  have H2 := Lib.hid c2
  have H3 := Lib.hid c3
  have HB := Lib.hid hb2
  clear c1 c2 c3 hb1 hb2 hT1 hT2 hsz
  subst hw1
  go_enter Tryd.func7, Tryd.ntmps7
  go_wp2_with fail
  refine H1.out.mono ?_
  rintro e w1 ⟨rfl, rfl⟩
  go_wp2_with fail
  refine H2.out.mono ?_
  rintro e w1 ⟨rfl, rfl⟩
  go_wp2_with fail
  refine H3.out.mono ?_
  rintro e w1 ⟨rfl, rfl⟩
  go_wp2_with fail
  go_ret
  exact ⟨rfl, HB.out⟩
end Go.Proofs.YtnjamnokflfooaaDoor.Crc
