/-
  CrcTells is proved: of bytes (up to 3000) of which up to four side by side are turned the sum is another one just if one of them is another one. Conditions: the table of half bytes holds what its initialiser lays (tied to the program's text).
-/
import Derived.Test.YtnjamnokflfooaaDoorCrcTellMath
import Derived.Test.YtnjamnokflfooaaDoorCrcLaws
import Derived.Test.YtnjamnokflfooaaDoorCards
import Derived.Test.YtnjamnokflfooaaDoorTie
import Derived.Deep.RegionWith
import Derived.BigRegion
namespace Go.Proofs.YtnjamnokflfooaaDoor.CrcTells
open Go.ChangeShapes Go.WideShapes Go.ChangeAt Go.RowKit
open Go.Proofs.YtnjamnokflfooaaDoor.Crc

set_option maxHeartbeats 400000 in
theorem walk_off (s : ByteArray) (at_ : Int) (y : Int) (w : World) (hT : Tab w) (hs : s.size ≤ maxLen) (h : 3000 < s.size ∨ at_ < 0 ∨ (s.size : Int) ≤ at_) :
    Calls Tryd.prog 5 #[.string s, .int .i64 at_, .int .u32 y] w fun e w' => e = .returned (.bool true) ∧ Below w.heap.size w w' := by
  unfold maxLen at hs
  by_cases h1 : 3000 < s.size
  · clear h
    go_enter Tryd.func5, Tryd.ntmps5
    go_wp2_with fail
    refine (awake_any _ hT).mono ?_
    rintro e w1 ⟨rfl, hb⟩
    go_wp2_with fail
    go_ret
    exact ⟨rfl, hb⟩
  · by_cases h2 : at_ < 0
    · clear h
      go_enter Tryd.func5, Tryd.ntmps5
      go_wp2_with fail
      refine (awake_any _ hT).mono ?_
      rintro e w1 ⟨rfl, hb⟩
      go_wp2_with fail
      go_ret
      exact ⟨rfl, hb⟩
    · have h3 : (s.size : Int) ≤ at_ := by omega
      clear h
      go_enter Tryd.func5, Tryd.ntmps5
      go_wp2_with fail
      refine (awake_any _ hT).mono ?_
      rintro e w1 ⟨rfl, hb⟩
      go_wp2_with fail
      go_ret
      exact ⟨rfl, hb⟩

/-- The byte by which the one at place at_ + k is turned. -/
def xb (y : BitVec 32) (k : Nat) : UInt8 := UInt8.ofNat (y.toNat / 2 ^ (8 * k))
/-- The bytes by which the first k are turned. -/
def xbs (y : BitVec 32) (k : Nat) : List UInt8 := (List.range k).map (xb y)

/-- Is one of the first k bytes turned? -/
def chg (y : BitVec 32) : Nat → Bool
  | 0 => false
  | k + 1 => chg y k || (xb y k != 0)
theorem chg_iff (y : BitVec 32) (k : Nat) : chg y k = false ↔ ∀ x ∈ xbs y k, x = 0 := by
  induction k with
  | zero => simp [chg, xbs]
  | succ k ih =>
    rw [chg, Bool.or_eq_false_iff, ih]
    have e : xbs y (k + 1) = xbs y k ++ [xb y k] := by unfold xbs; rw [List.range_succ, List.map_append]; rfl
    rw [e]
    constructor
    · rintro ⟨h1, h2⟩ x hx
      rcases List.mem_append.1 hx with hx | hx
      · exact h1 x hx
      · rw [List.mem_singleton.1 hx]; simpa using h2
    · intro h
      exact ⟨fun x hx => h x (List.mem_append_left _ hx), by simpa using h (xb y k) (List.mem_append_right _ (List.mem_singleton.2 rfl))⟩
theorem xbs_length (y : BitVec 32) (k : Nat) : (xbs y k).length = k := by unfold xbs; simp
theorem xbs_succ (y : BitVec 32) (k : Nat) : xbs y (k + 1) = xbs y k ++ [xb y k] := by unfold xbs; rw [List.range_succ, List.map_append]; rfl
theorem turned_zero (l : List UInt8) (at_ : Nat) (y : BitVec 32) : turned l at_ (xbs y 0) = l := by unfold turned xbs; simp
theorem turned_length (l : List UInt8) (at_ k : Nat) (y : BitVec 32) (h : at_ + k ≤ l.length) : (turned l at_ (xbs y k)).length = l.length := by
  unfold turned
  simp [xbs_length]
  omega
theorem turned_next (l : List UInt8) (at_ k : Nat) (y : BitVec 32) (h : at_ + k < l.length) : (turned l at_ (xbs y k))[at_ + k]? = some l[at_ + k] := by
  unfold turned
  rw [List.getElem?_append_right (by simp [xbs_length]; omega)]
  simp [xbs_length]
  have e : at_ + k - (min at_ l.length + min k (l.length - at_)) = 0 := by omega
  rw [e]
  simp [h]
theorem turned_succ (l : List UInt8) (at_ k : Nat) (y : BitVec 32) (h : at_ + k < l.length) : turned l at_ (xbs y (k + 1)) = (turned l at_ (xbs y k)).set (at_ + k) (l[at_ + k] ^^^ xb y k) := by
  unfold turned
  rw [xbs_succ, List.length_append, xbs_length, List.length_singleton]
  have e1 : (l.drop at_).take (k + 1) = (l.drop at_).take k ++ [l[at_ + k]] := by
    rw [List.take_succ_eq_append_getElem (by simp; omega)]
    simp
  have e2 : l.drop (at_ + k) = l[at_ + k] :: l.drop (at_ + k + 1) := List.drop_eq_getElem_cons h
  have hlen : ((l.drop at_).take k).length = (xbs y k).length := by simp [xbs_length]; omega
  rw [e1, e2, List.zipWith_append hlen]
  have hl2 : (l.take at_ ++ List.zipWith (· ^^^ ·) ((l.drop at_).take k) (xbs y k)).length = at_ + k := by simp [xbs_length]; omega
  rw [List.set_append_right _ _ (by omega), hl2, Nat.sub_self]
  simp [Nat.add_assoc]

/-- Block g is a row of bytes, of which l are the first, marked behind its end. -/
def Row (wr : World) (g N : Nat) (l : List UInt8) : Prop := ∃ C : Array Value, wr.heap[g]? = some (.cells C 5 (N, N + 1)) ∧ C.size = N ∧ l.length ≤ N ∧ ∀ (j : Nat) (u : UInt8), l[j]? = some u → C[j]? = some (Value.int .u8 (u.toNat : Int))
theorem Row.cell {wr : World} {g N : Nat} {l : List UInt8} (h : Row wr g N l) {j : Nat} {u : UInt8} (hu : l[j]? = some u) : wr.cell? ⟨g, j, none⟩ = some (.int .u8 (u.toNat : Int)) := by
  obtain ⟨C, h1, _, _, h4⟩ := h
  rw [cell_of_row _ _ _ _ _ _ h1]
  exact h4 j u hu
theorem Row.frozen {wr : World} {g N : Nat} {l : List UInt8} (h : Row wr g N l) {j : Nat} (hj : j < l.length) : wr.frozen? ⟨g, j, none⟩ = false := by
  obtain ⟨C, h1, _, h3, _⟩ := h
  simp [World.frozen?, h1]
  omega
theorem Row.set_ {wr : World} {g N : Nat} {l : List UInt8} (h : Row wr g N l) (j : Nat) (u : UInt8) : Row (wr.setCell ⟨g, j, none⟩ (.int .u8 (u.toNat : Int))) g N (l.set j u) := by
  obtain ⟨C, h1, h2, h3, h4⟩ := h
  refine ⟨C.setIfInBounds j (.int .u8 (u.toNat : Int)), ?_, by simpa using h2, by simpa using h3, ?_⟩
  · simp [World.setCell, Array.getElem?_modify, h1]
  · intro i v hv
    rw [List.getElem?_set] at hv
    rw [Array.getElem?_setIfInBounds]
    by_cases e : j = i
    · subst e
      simp only [if_true] at hv ⊢
      split at hv
      · injection hv with hv
        subst hv
        rw [if_pos (by omega)]
      · cases hv
    · simp only [if_neg e] at hv ⊢
      exact h4 i v hv
theorem Row.later {wr wr' : World} {g N B : Nat} {l : List UInt8} (h : Row wr g N l) (hb : Below B wr wr') (hg : g < B) : Row wr' g N l := by
  obtain ⟨C, h1, h2, h3, h4⟩ := h
  exact ⟨C, (hb.block g hg).trans h1, h2, h3, h4⟩

theorem Tab_alloc {w : World} (h : Tab w) (o : Obj) : Tab (w.alloc o) := h.later ((Below.refl _ _).alloc (Nat.le_refl _) o)
theorem Tab_drew {w : World} (h : Tab w) : Tab w.drew := h
theorem strs_one {w : World} {ad : Addr} {s : ByteArray} (h : w.cell? ad = some (.string s)) (hz : s.size ≤ 140737488355328) : Strs w (some ad) [s] := by
  intro k hk
  obtain rfl : k = 0 := by simpa using hk
  exact ⟨ad, rfl, by simpa [Addr.add] using h, hz⟩
theorem sum_one (ad : Addr) (s : ByteArray) (cap : Nat) (w : World) (hc : w.cell? ad = some (.string s)) (hz : s.size ≤ 140737488355328) (hT : Tab w) :
    Calls Tryd.prog 9 #[.slice (some ad) 1 cap] w fun e w' => e = .returned (.int .u32 ((more 0#32 s.data.toList).toNat : Int)) ∧ w = w' := by
  have h := sum_any (some ad) [s] cap w (strs_one hc hz) (show 1 ≤ maxLen by decide) hT
  rw [cat_one] at h
  exact h
theorem back {w : World} {g N n cap : Nat} {l : List UInt8} (h : Row w g N l) (hn : l.length = n) :
    (convert 31 9 (.slice (some ⟨g, 0, none⟩) n cap)).run Tryd.prog w = .ok (.string ⟨l.toArray⟩) w := by
  subst hn
  refine run_convert_bytes_back w 31 9 5 ⟨g, 0, none⟩ cap l Tryd.underlying31 Tryd.underlying5 Tryd.underlying9 ?_
  intro j hj
  have e : (⟨g, 0, none⟩ : Addr).add j = ⟨g, j, none⟩ := by
    unfold Addr.add
    by_cases h0 : j = 0
    · subst h0; rfl
    · rw [if_neg h0, Nat.zero_add]
  rw [e]
  exact h.cell (List.getElem?_eq_getElem hj)
theorem row_lt {w : World} {g N : Nat} {l : List UInt8} (h : Row w g N l) : g < w.heap.size := by
  obtain ⟨C, h1, _⟩ := h
  rcases Nat.lt_or_ge g w.heap.size with hlt | hge
  · exact hlt
  · rw [Array.getElem?_eq_none hge] at h1; cases h1

theorem bits_xor8 (a b : UInt8) : bits .xor .u8 (a.toNat : Int) (b.toNat : Int) = ((a ^^^ b).toNat : Int) := by
  rw [u8_xor_nat _ _ a.toNat_lt b.toNat_lt, UInt8.toNat_xor]

theorem xb_is (y : BitVec 32) (k : Nat) : ((y.toNat : Int) / 2 ^ (8 * k) % 256) = ((xb y k).toNat : Int) := by
  unfold xb
  have e : (UInt8.ofNat (y.toNat / 2 ^ (8 * k))).toNat = y.toNat / 2 ^ (8 * k) % 256 := by rw [UInt8.toNat_ofNat']
  rw [e]
  rfl
theorem xb_test (y : BitVec 32) (k : Nat) : (((xb y k).toNat : Int) != 0) = (xb y k != 0) := by
  by_cases h : xb y k = 0
  · rw [h]; rfl
  · have h2 : ((xb y k).toNat : Int) ≠ 0 := fun e => h (UInt8.toNat_inj.1 (Int.ofNat_inj.1 e))
    rw [bne_iff_ne.2 h2, bne_iff_ne.2 h]

set_option maxHeartbeats 2000000 in
theorem walk_on (s : ByteArray) (at_ : Nat) (y : BitVec 32) (w : World) (hT : Tab w) (hs : s.size ≤ 3000) (h : at_ < s.size) :
    Calls Tryd.prog 5 #[.string s, .int .i64 (at_ : Int), .int .u32 (y.toNat : Int)] w fun e w' => e = .returned (.bool true) ∧ Below w.heap.size w w' := by
  have hd1 : decide (3000 < (s.size : Int)) = false := by simp; omega
  have hd2 : decide ((at_ : Int) < 0) = false := by simp
  have hd3 : decide (s.size ≤ at_) = false := by simp; omega
  go_enter Tryd.func5, Tryd.ntmps5
  go_wp2_with fail
  refine (awake_any _ hT).mono ?_
  rintro e w1 ⟨rfl, hb⟩
  have hconv := run_bytes_of_string (P := Tryd.prog) w1 9 31 5 s Tryd.underlying9 Tryd.underlying31 Tryd.underlying5
  have hC : ∀ j (hj : j < s.data.size), (bytesRow s (grownCap w1 s.size 0 5))[j]? = some (.int .u8 (s.data[j].toNat : Int)) := fun j hj => bytesRow_at s _ j hj
  have hN : s.size ≤ (bytesRow s (grownCap w1 s.size 0 5)).size := by simp [bytesRow, ByteArray.size_data]
  generalize grownCap w1 s.size 0 5 = cap at hconv hC hN
  generalize bytesRow s cap = C at hconv hC hN
  have hrow : Row (w1.drew.alloc (.cells C 5 (C.size, C.size + 1))) w1.heap.size C.size s.data.toList := by
    refine ⟨C, heap_alloc_new w1.drew _, rfl, by simpa using hN, ?_⟩
    intro j u hu
    have hj : j < s.data.size := by
      have := (List.getElem?_eq_some_iff.1 hu).1
      simpa using this
    rw [hC j hj]
    have : s.data.toList[j]? = some s.data[j] := by simp
    rw [this] at hu
    injection hu with hu
    exact congrArg (fun b : UInt8 => some (Value.int .u8 (b.toNat : Int))) hu
  have hb2 : Below w.heap.size w (w1.drew.alloc (.cells C 5 (C.size, C.size + 1))) := hb.drew.alloc hb.size _
  have hg : w.heap.size ≤ w1.heap.size := hb.size
  have HROW := Lib.hid hrow
  have HB := Lib.hid hb2
  clear hC hN hb2 hrow
  go_wp2_with fail
  clear hconv
  go_loopw [8, 9] (fun v8 v9 wr => ∃ k : Nat, k ≤ 4 ∧ at_ + k ≤ s.size ∧ v9 = .int .i64 k ∧ v8 = .bool (chg y k) ∧ Row wr w1.heap.size C.size (turned s.data.toList at_ (xbs y k)) ∧ Below w.heap.size w wr) (fun _ v9 _ => 4 - (intOf v9).toNat)
  case atStart => exact ⟨0, by omega, by omega, rfl, rfl, by rw [turned_zero]; exact HROW.out, HB.out⟩
  case round =>
    obtain ⟨k, hk, hak, rfl, rfl, hr, hbr⟩ := hrel
    have hlen : s.data.toList.length = s.size := Array.length_toList
    by_cases hgo : k < 4 ∧ at_ + k < s.size
    · obtain ⟨hk4, hks⟩ := hgo
      obtain ⟨u, hu, hset⟩ : ∃ u : UInt8, (turned s.data.toList at_ (xbs y k))[at_ + k]? = some u ∧ turned s.data.toList at_ (xbs y (k + 1)) = (turned s.data.toList at_ (xbs y k)).set (at_ + k) (u ^^^ xb y k) :=
        ⟨_, turned_next s.data.toList at_ k y (by omega), turned_succ s.data.toList at_ k y (by omega)⟩
      have hcell := hr.cell hu
      have HS := Lib.hid hset
      have hfz := hr.frozen (j := at_ + k) (by rw [turned_length _ _ _ _ (by omega)]; omega)
      have HR := Lib.hid hr
      have HBR := Lib.hid hbr
      have HL := Lib.hid hlen
      clear hr hbr hlen hset hu
      have hx1 := xb_is y k
      have hx2 := bits_xor8 u (xb y k)
      have hx3 := xb_test y k
      go_wp2_with fail
      all_goals
        go_roundw
        case rel => exact ⟨k + 1, by omega, by omega, by go_num, by simp [chg, *], by have := HR.out.set_ (at_ + k) (u ^^^ xb y k); rw [UInt8.toNat_xor] at this; rw [HS.out]; exact this, HBR.out.setCell hg _⟩
        case measure => simp [intOf]; omega
    · have HR := Lib.hid hr
      have hT2 := hT.later hbr
      have hne : k = 4 ∨ at_ + k = s.size := by omega
      have HNE := Lib.hid hne
      clear hgo hne
      have hz1 : s.size ≤ 140737488355328 := by omega
      have hlt := turned_length s.data.toList at_ k y (by omega)
      have hz2 : ByteArray.size ⟨(turned s.data.toList at_ (xbs y k)).toArray⟩ ≤ 140737488355328 := by
        show (turned s.data.toList at_ (xbs y k)).toArray.size ≤ _
        rw [List.size_toArray]; omega
      have hb0 := back (cap := cap) (w := wr.drew) (n := s.size) hr (by omega)
      have hb1 := back (cap := cap) (w := (wr.alloc (.cells #[.string s] 9)).drew) (n := s.size) (hr.later ((Below.refl (w1.heap.size + 1) wr).alloc (row_lt hr) _).drew (Nat.lt_succ_self _)) (by omega)
      have hm := turned_more 0#32 s.data.toList at_ (xbs y k) (by rw [xbs_length]; omega) (by rw [xbs_length]; omega)
      rw [← chg_iff] at hm
      have HM := Lib.hid hm
      clear hlt hm hr hlen
      generalize turned s.data.toList at_ (xbs y k) = l at HR hz2 hb0 hb1 HM
      have hf : ((((more 0#32 s.data.toList).toNat : Int) != ((more 0#32 l).toNat : Int)) == chg y k) = true := by
        by_cases e : more 0#32 l = more 0#32 s.data.toList
        · rw [HM.out.1 e, e]; simp
        · have h2 : ((more 0#32 s.data.toList).toNat : Int) ≠ ((more 0#32 l).toNat : Int) := fun e2 => e (BitVec.eq_of_toNat_eq (Int.ofNat_inj.1 e2)).symm
          have h3 : chg y k = true := by
            rcases Bool.eq_false_or_eq_true (chg y k) with h | h
            · exact h
            · exact absurd (HM.out.2 h) e
          rw [bne_iff_ne.2 h2, h3]; rfl
      have hbs := hbr.size
      have HF := Lib.hid hf
      clear hf HM
      by_cases hk4 : k < 4
      · have hks : ¬ at_ + k < s.size := by have := HNE.out; omega
        go_wp2_with fail
        go_region_with (go_at_call 9; first | (refine (sum_one _ s _ _ ?_ hz1 ?_).mono ?_; (focus (simp [go_sem]; done)); (focus (repeat (first | exact hT2 | apply Tab_drew | apply Tab_alloc))); rintro e w' ⟨rfl, rfl⟩) | (refine (sum_one _ ⟨l.toArray⟩ _ _ ?_ hz2 ?_).mono ?_; (focus (simp [go_sem]; done)); (focus (repeat (first | exact hT2 | apply Tab_drew | apply Tab_alloc))); rintro e w' ⟨rfl, rfl⟩))
        all_goals go_wp2
        all_goals go_ret
        all_goals exact ⟨ret_val (congrArg Value.bool HF.out), by go_grown⟩
      · go_wp2_with fail
        go_region_with (go_at_call 9; first | (refine (sum_one _ s _ _ ?_ hz1 ?_).mono ?_; (focus (simp [go_sem]; done)); (focus (repeat (first | exact hT2 | apply Tab_drew | apply Tab_alloc))); rintro e w' ⟨rfl, rfl⟩) | (refine (sum_one _ ⟨l.toArray⟩ _ _ ?_ hz2 ?_).mono ?_; (focus (simp [go_sem]; done)); (focus (repeat (first | exact hT2 | apply Tab_drew | apply Tab_alloc))); rintro e w' ⟨rfl, rfl⟩))
        all_goals go_wp2
        all_goals go_ret
        all_goals exact ⟨ret_val (congrArg Value.bool HF.out), by go_grown⟩

theorem walk (s : ByteArray) (at_ : Int) (y : BitVec 32) (w : World) (hT : Tab w) (hs : s.size ≤ maxLen) :
    Calls Tryd.prog 5 #[.string s, .int .i64 at_, .int .u32 (y.toNat : Int)] w fun e w' => e = .returned (.bool true) ∧ Below w.heap.size w w' := by
  by_cases h : 3000 < s.size ∨ at_ < 0 ∨ (s.size : Int) ≤ at_
  · exact walk_off s at_ _ w hT hs h
  · obtain ⟨n, rfl⟩ := Int.eq_ofNat_of_zero_le (show 0 ≤ at_ by omega)
    exact walk_on s n y w hT (by omega) (by omega)

theorem opened {H : Type} {enc : TypeId × Value → H} {W : World} {base : Nat} {gs : List (DataW H)} (v0 : Value) (d0 : DataW H) (p0 : List MemPlace) (v1 : Value) (d1 : DataW H) (p1 : List MemPlace) (v2 : Value) (d2 : DataW H) (p2 : List MemPlace)
    (o0 : Value.okWide Tryd.prog W .any base 9 v0) (t0 : DataW.Trod enc Tryd.prog W 0 (fun _ => true) true 9 v0 d0 p0)
    (o1 : Value.okWide Tryd.prog W .any base 3 v1) (t1 : DataW.Trod enc Tryd.prog W 0 (fun _ => true) true 3 v1 d1 p1)
    (o2 : Value.okWide Tryd.prog W .any base 25 v2) (t2 : DataW.Trod enc Tryd.prog W 0 (fun _ => true) true 25 v2 d2 p2)
    (_hsz : (DataW.weightsEach Tryd.prog ([9, 3, 25] ++ []) ([d0, d1, d2] ++ gs)).all (· ≤ reachBytes) = true) (hT : Tab W) :
    Calls Tryd.prog 5 #[v0, v1, v2] W fun e W' => e = .returned (.bool true) ∧ Below W.heap.size W W' := by
  obtain ⟨s, rfl, rfl, rfl, hs⟩ := Go.ChangeMaps.open_string Tryd.underlying9 o0 t0
  obtain ⟨a, rfl, rfl, rfl, _⟩ := open_int Tryd.underlying3 o1 t1
  obtain ⟨x, rfl, rfl, rfl, wx⟩ := open_int Tryd.underlying25 o2 t2
  obtain ⟨c, rfl⟩ := u32_of wx
  exact walk s a c W hT hs

theorem contract (H : Type) (enc : TypeId × Value → H) (W : World) (base : Nat) (args : Array Value) (ds gs : List (DataW H)) (before : List MemPlace)
    (hval : ∀ (j : Nat) t v, Tryd.f5.params[j]? = some t → args[j]? = some v → Value.okWide Tryd.prog W .any base t v)
    (hW : DataW.Whole enc Tryd.prog Tryd.f5.params.toList Rows.crcTellsSpec.vars false W args.toList ds gs before)
    (hsz : (DataW.weightsEach Tryd.prog (Tryd.f5.params.toList ++ []) (ds ++ gs)).all (· ≤ reachBytes) = true) (hG : Tab W) :
    Calls Tryd.prog 5 args W fun e W' => ∃ v, e = .returned v ∧ Rows.crcTellsSpec.post enc Tryd.prog Tryd.f5 false true false false W args v W' := by
  have hW0 := hW
  obtain ⟨p, q, hA0, hV, rfl, _, _⟩ := hW
  have hA : DataW.TrodAll enc Tryd.prog W 0 (fun _ => true) true Tryd.f5.params.toList args.toList ds p := hA0
  rw [Tryd.params5] at hA hval hsz
  obtain ⟨v0, vs0, d0, ds0, p0, q0, hargs, rfl, rfl, h0, r0⟩ := trodAll_cons hA
  obtain ⟨v1, vs1, d1, ds1, p1, q1, rfl, rfl, rfl, h1, r1⟩ := trodAll_cons r0
  obtain ⟨v2, vs2, d2, ds2, p2, q2, rfl, rfl, rfl, h2, r2⟩ := trodAll_cons r1
  obtain ⟨rfl, rfl, rfl⟩ := trodAll_nil r2
  obtain rfl : args = #[v0, v1, v2] := by cases args; simp_all
  refine (opened v0 d0 p0 v1 d1 p1 v2 d2 p2 (hval 0 9 v0 rfl rfl) h0 (hval 1 3 v1 rfl rfl) h1 (hval 2 25 v2 rfl rfl) h2 hsz hG).mono fun e W' ⟨he, hb⟩ => ⟨_, he, ?_⟩
  exact Base.law_post (tb := 4) Base.laidOut (by kernel_rfl) rfl Tryd.underlying4 rfl (fun l hl => by
    rw [Tryd.params5] at hl
    match l, hl with
    | [_, _, _], _ => rfl) (by rw [Tryd.params5]; rfl) hW0 hb

theorem laid_met (os : Os) : laidMet Tryd.prog Rows.crcTellsRow.laid ((laidWorld os).forCall (fun _ _ => 0) ⟨#[], #[.string ⟨#[]⟩, .int .i64 0, .int .u32 0], []⟩).memory :=
  laidMet_of_run' 8 (by kernel_rfl) (by kernel_rfl)
theorem reads (os : Os) {H : Type} (enc : TypeId × Value → H) : ∃ places, DataW.whole enc Tryd.prog ((laidWorld os).forCall (fun _ _ => 0) ⟨#[], #[.string ⟨#[]⟩, .int .i64 0, .int .u32 0], []⟩).memory Tryd.f5.params.toList Rows.crcTellsSpec.vars false (#[.string ⟨#[]⟩, .int .i64 0, .int .u32 0] : Array Value).toList 8 = some ([.lit (.string []), .lit (.int .i64 0), .lit (.int .u32 0)], [], places) :=
  ⟨[], by kernel_rfl⟩

set_option maxRecDepth 100000 in
theorem lifted (os : Os) (started : os.Started) (H : Type) (enc : TypeId × Value → H) (F : Stop.Interp) :
    ReturnsInHanded {} Tryd.checked os 5 .any ((OpenSpec.ofChange Rows.crcTellsSpec).preRow enc Tryd.prog Tryd.f5 Rows.crcTellsRow.domain false Rows.crcTellsRow.laid) (((OpenSpec.ofChange Rows.crcTellsSpec).at F).post enc Tryd.prog Tryd.f5 false true false false) := by
  obtain ⟨places, hx⟩ := reads os enc
  refine returnsInHanded_of_row (C := Tryd.checked) (s := OpenSpec.ofChange Rows.crcTellsSpec) Base.own started (by kernel_rfl) Tryd.func5
    (witness_row_at (enc := enc) (C := Tryd.checked) false (laidWorld os) #[.string ⟨#[]⟩, .int .i64 0, .int .u32 0] rfl (by kernel_rfl) (by kernel_rfl) (by kernel_rfl)
      (OpenSpec.preRow_of_cond 8 hx (by kernel_rfl) (fun k hk => by cases hk) (by kernel_rfl) (laid_met os))) ?_
  intro W base args ds gs before hval hW _ _ hsz hL _ _
  exact contract H enc W base args ds gs before hval hW hsz (table hL)

theorem said : Rows.CrcTellsSaid :=
  OpenClaim.holds_of_cond 5 Tryd.f5 rfl rfl rfl rfl rfl rfl rfl ⟨rfl, rfl, rfl, rfl, rfl⟩ rfl rfl rfl rfl rfl (by kernel_rfl) Tryd.func5 (by kernel_rfl)
    (of_decide_eq_true (by kernel_rfl)) (by unfold Func.isWrapper; rw [if_neg (of_decide_eq_false (by kernel_rfl))]; exact ⟨rfl, rfl⟩)
    (fun os started H enc _ F => by rw [OpenClaim.pre_eq_preRow]; exact lifted os started H enc F)

theorem plain (f : FuncId) (fn : Func) (hf : Tryd.pinned.checked.prog.funcNamed "remuda/remudalaw01.CrcTells" = some f) (hfn : Tryd.pinned.checked.prog.funcs[f]? = some fn) :
    false = Tryd.pinned.checked.prog.looks [] ∧ ∀ (j : Nat) t, fn.params[j]? = some t → Tryd.pinned.checked.prog.wantsStandIn t = false := by
  obtain rfl : f = 5 := Option.some.inj ((show Tryd.prog.funcNamed "remuda/remudalaw01.CrcTells" = some 5 by kernel_rfl).symm.trans hf) |>.symm
  obtain rfl : fn = Tryd.f5 := (Option.some.inj (Tryd.func5.symm.trans hfn)).symm
  refine ⟨by kernel_rfl, fun j t ht => ?_⟩
  have hall : Tryd.f5.params.toList.all (fun t => !(Tryd.prog.wantsStandIn t)) = true := by kernel_rfl
  have hm : t ∈ Tryd.f5.params.toList := by simpa using Array.mem_of_getElem? ht
  have h := List.all_eq_true.1 hall t hm
  exact (by simpa using h : Tryd.prog.wantsStandIn t = false)

theorem card : Rows.CrcTellsCardSaid :=
  Claim7.holds_tied_plain_at .later [] _ _ _ _ said (fun _ h => by cases h) (by kernel_rfl) (fun _ h => by cases h) crcTells_row_tie rfl ⟨rfl, rfl⟩ (by kernel_rfl) rfl plain (by kernel_rfl)
#print axioms card
end Go.Proofs.YtnjamnokflfooaaDoor.CrcTells
