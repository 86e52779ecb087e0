/-
  Layer 1 (crc) as later layers use it: what its functions, and the document's own answers, give; the table as a row lists it; texts that came in; a world for the witness. Conditions: the table of half bytes holds what its initialiser lays.
-/
import Derived.Test.YtfdhckfpkhoheaaDoorCrcMath
import Derived.Test.YtfdhckfpkhoheaaDoorJoined
import Derived.Test.YtfdhckfpkhoheaaDoorBase
import Derived.Test.YtfdhckfpkhoheaaDoorRows
import Derived.OpenShut
import Derived.WalkLawsBesides
import Derived.WalkSpells
import Derived.Handy
import Derived.Lib.LaidTab
import Derived.Lib.Hide
import Derived.Deep.DeepHandedRow
namespace Go.Proofs.YtfdhckfpkhoheaaDoor.Crc
open Go.ChangeShapes Go.WideShapes Go.ChangeAt Go.RowKit Go.Proofs.YtfdhckfpkhoheaaDoor.Mem

theorem gTab : Tryd.prog.globalNamed "remuda/crc.halves" = some 1 := by kernel_rfl

/-- The table holds its numbers. -/
def Tab (w : World) : Prop := 1 < w.heap.size ∧ ∀ i, i < 16 → w.cell? ⟨1, i, none⟩ = some (.int .u32 (tab.getD i 0))
theorem Tab.cell {w : World} (h : Tab w) (i : Nat) (hi : i < 16) : w.cell? ⟨1, i, none⟩ = some (.int .u32 (tab.getD i 0)) := h.2 i hi
theorem Tab.below {B : Nat} {w w' : World} (h : Tab w) (hB : 1 < B) (hb : Below B w w') : Tab w' :=
  ⟨Nat.lt_of_lt_of_le h.1 hb.size, fun i hi => (hb.cell (p := ⟨1, i, none⟩) hB).trans (h.2 i hi)⟩
theorem Tab.later {w w' : World} (h : Tab w) (hb : Below w.heap.size w w') : Tab w' := h.below h.1 hb
theorem tab_of {w : World} (h : Lib.TabIs Tryd.prog w "remuda/crc.halves" .u32 tab) : Tab w := by
  have hc : ∀ i, i < 16 → w.cell? ⟨1, i, none⟩ = some (.int .u32 (tab.getD i 0)) := fun i hi => Lib.TabIs.cell h gTab i (by rw [tab_length]; exact hi)
  refine ⟨?_, hc⟩
  have h0 := hc 0 (by omega)
  rcases Nat.lt_or_ge 1 w.heap.size with hlt | hge
  · exact hlt
  · exfalso
    rw [show w.cell? ⟨1, 0, none⟩ = none by simp [World.cell?, Array.getElem?_eq_none hge]] at h0
    cases h0

theorem bits_and32 (a b : BitVec 32) : bits .and .u32 (a.toNat : Int) (b.toNat : Int) = ((a &&& b).toNat : Int) := by
  show IntKind.u32.wrap ((BitVec.ofInt 32 (a.toNat : Int) &&& BitVec.ofInt 32 (b.toNat : Int)).toNat : Int) = _
  rw [BitVec.ofInt_natCast, BitVec.ofInt_natCast, BitVec.ofNat_toNat, BitVec.ofNat_toNat, BitVec.setWidth_eq, BitVec.setWidth_eq, IntKind.wrap_u32']
  have := (a &&& b).isLt
  omega
theorem bits_xor32 (a b : BitVec 32) : bits .xor .u32 (a.toNat : Int) (b.toNat : Int) = ((a ^^^ b).toNat : Int) := by
  show IntKind.u32.wrap ((BitVec.ofInt 32 (a.toNat : Int) ^^^ BitVec.ofInt 32 (b.toNat : Int)).toNat : Int) = _
  rw [BitVec.ofInt_natCast, BitVec.ofInt_natCast, BitVec.ofNat_toNat, BitVec.ofNat_toNat, BitVec.setWidth_eq, BitVec.setWidth_eq, IntKind.wrap_u32']
  have := (a ^^^ b).isLt
  omega
theorem shr32 (a : BitVec 32) (n : Nat) : (a.toNat : Int) / (2 ^ n : Nat) = ((a >>> n).toNat : Int) := by
  rw [BitVec.toNat_ushiftRight, Nat.shiftRight_eq_div_pow]; rfl

theorem half_any (c : BitVec 32) (w : World) (hT : Tab w) :
    Calls Tryd.prog 48 #[.int .u32 (c.toNat : Int)] w fun e w' => e = .returned (.int .u32 ((sts 4 c).toNat : Int)) ∧ w = w' := by
  have hb' : bits .and .u32 (c.toNat : Int) 15 = ((c.toNat % 16 : Nat) : Int) := by
    have e : (BitVec.ofNat 32 (c.toNat % 16)).toNat = c.toNat % 16 := by rw [BitVec.toNat_ofNat]; omega
    have h := bits_and32 c 15#32
    rw [low_of, e] at h
    exact h
  have hfin : bits .xor .u32 ((c.toNat : Int) / 16) ((sts 4 (BitVec.ofNat 32 (c.toNat % 16))).toNat : Int) = ((sts 4 c).toNat : Int) := by
    rw [sts4_tab c, ← low_of, ← bits_xor32, ← shr32 c 4]; rfl
  have hn : c.toNat % 16 < 16 := by omega
  have hc := hT.cell (c.toNat % 16) hn
  rw [tab_sts ⟨c.toNat % 16, hn⟩] at hc
  generalize (sts 4 (BitVec.ofNat 32 (c.toNat % 16))).toNat = v at hc hfin
  generalize c.toNat % 16 = n at hn hb' hc
  have HF := Lib.hid hfin
  clear hfin hT
  go_enter Tryd.func48, Tryd.ntmps48
  go_wp2
  go_ret
  exact ⟨ret_int HF.out, rfl⟩

theorem take_snoc (s : ByteArray) (k : Nat) (h : k < s.size) : s.data.toList.take (k + 1) = s.data.toList.take k ++ [s[k]] := by
  rw [List.take_succ_eq_append_getElem (by simpa using h)]; rfl
theorem by32_cast (b : UInt8) : (b.toNat : Int) = ((by32 b).toNat : Int) := by
  unfold by32; rw [BitVec.toNat_ofNat]; have := b.toNat_lt; omega

set_option maxHeartbeats 400000 in
theorem text_any (c : BitVec 32) (s : ByteArray) (w : World) (hs : s.size ≤ maxLen) (hT : Tab w) :
    Calls Tryd.prog 47 #[.int .u32 (c.toNat : Int), .string s] w fun e w' => e = .returned (.int .u32 ((sl c s.data.toList).toNat : Int)) ∧ w = w' := by
  unfold maxLen at hs
  go_enter Tryd.func47, Tryd.ntmps47
  go_wp2
  go_loop [0, 5] (fun c' i => ∃ k : Nat, k ≤ s.size ∧ i = .int .i64 k ∧ c' = .int .u32 ((sl c (s.data.toList.take k)).toNat : Int)) (fun _ i => s.size - (intOf i).toNat)
  case atStart => exact ⟨0, Nat.zero_le _, rfl, rfl⟩
  case round =>
    obtain ⟨k, hk, rfl, rfl⟩ := hrel
    by_cases hlt : k < s.size
    · have hts := take_snoc s k hlt
      have hh := halves (sl c (s.data.toList.take k)) s[k]
      have hx : bits .xor .u32 ((sl c (s.data.toList.take k)).toNat : Int) ((s[k].toNat : Int) % 4294967296) = ((sl c (s.data.toList.take k) ^^^ by32 s[k]).toNat : Int) := by
        rw [show ((s[k].toNat : Int) % 4294967296) = (s[k].toNat : Int) by have := s[k].toNat_lt; omega, by32_cast, bits_xor32]
      have H1 := Lib.hid hts
      have H2 := Lib.hid hh
      have H3 := Lib.hid hx
      clear hts hh hx
      go_wp2_with fail
      rw [H3.out]
      refine (half_any _ _ hT).mono ?_
      rintro e w' ⟨rfl, rfl⟩
      go_wp2_with fail
      refine (half_any _ _ hT).mono ?_
      rintro e w' ⟨rfl, rfl⟩
      rw [H2.out]
      go_wp2_with fail
      go_round
      case rel => exact ⟨k + 1, by omega, by go_num, by rw [H1.out, sl_snoc]⟩
      case measure => simp [intOf]; omega
    · go_wp2
      go_ret
      exact ⟨ret_int (by rw [List.take_of_length_le (by simp; omega)]), rfl⟩

theorem not32 (a : BitVec 32) : bits .xor .u32 IntKind.u32.max (a.toNat : Int) = ((~~~a).toNat : Int) := by
  have h := bits_xor32 4294967295#32 a
  have e : 4294967295#32 ^^^ a = ~~~a := by
    have : 4294967295#32 = BitVec.allOnes 32 := by decide
    rw [this, BitVec.allOnes_xor]
  rw [e] at h
  exact h
theorem xor_ones (a : BitVec 32) : bits .xor .u32 (a.toNat : Int) 4294967295 = ((~~~a).toNat : Int) := by
  have h := bits_xor32 a 4294967295#32
  have e : a ^^^ 4294967295#32 = ~~~a := by
    have : 4294967295#32 = BitVec.allOnes 32 := by decide
    rw [this, BitVec.xor_allOnes]
  rw [e] at h
  exact h

set_option maxHeartbeats 400000 in
theorem more_any (c : BitVec 32) (A : Option Addr) (ss : List ByteArray) (cap : Nat) (w : World) (hs : Strs w A ss) (hl : ss.length ≤ maxLen) (hT : Tab w) :
    Calls Tryd.prog 45 #[.int .u32 (c.toNat : Int), .slice A ss.length cap] w fun e w' => e = .returned (.int .u32 ((more c (cat ss)).toNat : Int)) ∧ w = w' := by
  unfold maxLen at hl
  go_enter Tryd.func45, Tryd.ntmps45
  go_wp2
  go_loop [5, 12] (fun c' i => ∃ k : Nat, k ≤ ss.length ∧ i = .int .i64 k ∧ c' = .int .u32 ((sl (~~~c) (cat (ss.take k))).toNat : Int)) (fun _ i => ss.length - (intOf i).toNat)
  case atStart => exact ⟨0, Nat.zero_le _, rfl, congrArg (Value.int .u32) (not32 c)⟩
  case round =>
    obtain ⟨k, hk, rfl, rfl⟩ := hrel
    by_cases hlt : k < ss.length
    · obtain ⟨ad, rfl, hc, hz⟩ := hs k hlt
      have HT := Lib.hid (cat_take ss k hlt)
      generalize ss[k] = s at hc hz HT
      go_wp2_with fail
      refine (text_any _ _ _ (Nat.le_trans hz (by decide)) hT).mono ?_
      rintro e w' ⟨rfl, rfl⟩
      go_wp2_with fail
      go_round
      case rel => exact ⟨k + 1, by omega, by go_num, by rw [HT.out, sl_append]⟩
      case measure => simp [intOf]; omega
    · go_wp2
      go_ret
      refine ⟨ret_int ?_, rfl⟩
      rw [not32, List.take_of_length_le (by omega)]; rfl

theorem sum_any (A : Option Addr) (ss : List ByteArray) (cap : Nat) (w : World) (hs : Strs w A ss) (hl : ss.length ≤ maxLen) (hT : Tab w) :
    Calls Tryd.prog 41 #[.slice A ss.length cap] w fun e w' => e = .returned (.int .u32 ((more 0#32 (cat ss)).toNat : Int)) ∧ w = w' := by
  go_enter Tryd.func41, Tryd.ntmps41
  go_wp2_with fail
  refine (more_any 0#32 A ss cap w hs hl hT).mono ?_
  rintro e w' ⟨rfl, rfl⟩
  go_wp2_with fail
  go_ret
  exact ⟨rfl, rfl⟩

theorem shr_bit (b : UInt8) (k : Nat) : bits .and .u32 ((b.toNat : Int) / 2 ^ k) 1 = ((bitOf b k).toNat : Int) := by
  have h := bits_and32 (by32 b >>> k) 1#32
  rw [← shr32, ← by32_cast] at h
  exact h

theorem shr1 (a : BitVec 32) : (a.toNat : Int) / (2 : Int) = ((a >>> 1).toNat : Int) := shr32 a 1
theorem test_is (c : BitVec 32) (b : UInt8) (m : Nat) :
    (bits .and .u32 ((rn c b m).toNat : Int) 1 != bits .and .u32 ((b.toNat : Int) % 4294967296 / 2 ^ m) 1) = decide (rn c b m &&& 1#32 ≠ bitOf b m) := by
  have h1 : bits .and .u32 ((rn c b m).toNat : Int) 1 = ((rn c b m &&& 1#32).toNat : Int) := bits_and32 (rn c b m) 1#32
  rw [h1, show ((b.toNat : Int) % 4294967296) = (b.toNat : Int) by have := b.toNat_lt; omega, shr_bit]
  by_cases h : rn c b m &&& 1#32 = bitOf b m
  · simp [h]
  · have h2 : ((rn c b m &&& 1#32).toNat : Int) ≠ ((bitOf b m).toNat : Int) := fun e => h (BitVec.eq_of_toNat_eq (Int.ofNat_inj.1 e))
    rw [bne_iff_ne.2 h2, decide_eq_true h]
theorem step_yes (c : BitVec 32) (b : UInt8) (m : Nat)
    (h : (bits .and .u32 ((rn c b m).toNat : Int) 1 != bits .and .u32 ((b.toNat : Int) % 4294967296 / 2 ^ m) 1) = true) :
    bits .xor .u32 (((rn c b m).toNat : Int) / 2) 3988292384 = ((rn c b (m + 1)).toNat : Int) := by
  rw [test_is] at h
  rw [shr1, rn, stb, if_pos (of_decide_eq_true h)]
  exact bits_xor32 (rn c b m >>> 1) 3988292384#32
theorem step_no (c : BitVec 32) (b : UInt8) (m : Nat)
    (h : (bits .and .u32 ((rn c b m).toNat : Int) 1 != bits .and .u32 ((b.toNat : Int) % 4294967296 / 2 ^ m) 1) = false) :
    (((rn c b m).toNat : Int) / 2) = ((rn c b (m + 1)).toNat : Int) := by
  rw [test_is] at h
  rw [shr1, rn, stb, if_neg (of_decide_eq_false h)]


theorem gTabType : (Tryd.prog.globals[1]?).map (·.type) = some 83 := by kernel_rfl
theorem cellsTab : Tryd.prog.cellsOf 83 = 16 := by kernel_rfl
theorem cellsU32 : Tryd.prog.cellsOf 75 = 1 := by kernel_rfl

theorem table {W : World} (h : laidMetH Tryd.prog [("remuda/crc.halves", Rows.laid_remuda_crc_halves)] W) : Tab W :=
  tab_of (Lib.tabIs_of_head (rest := []) gTab gTabType Tryd.underlying83 Tryd.underlying75 cellsU32 cellsTab h)

/-- A number of 32 bits. -/
theorem u32_of {x : Int} (h : (Lit.int .u32 x).wf = true) : ∃ c : BitVec 32, x = (c.toNat : Int) := by
  have h1 : IntKind.u32.min = 0 := rfl
  have h2 : IntKind.u32.max = 4294967295 := rfl
  simp only [Lit.wf, Bool.and_eq_true, decide_eq_true_eq, h1, h2] at h
  refine ⟨BitVec.ofNat 32 x.toNat, ?_⟩
  rw [BitVec.toNat_ofNat]
  omega

/-- A WORLD FOR THE WITNESS: the settled one, the table holding what its initialiser lays. -/
noncomputable def laidWorld (os : Os) : World :=
  { World.holding Tryd.prog os ⟨#[], #[], []⟩ with heap := (World.holding Tryd.prog os ⟨#[], #[], []⟩).heap.modify 1 fun
      | .cells _ t frozen => .cells (tab.map fun z => Value.int .u32 z).toArray t frozen
      | o => o }
end Go.Proofs.YtfdhckfpkhoheaaDoor.Crc
