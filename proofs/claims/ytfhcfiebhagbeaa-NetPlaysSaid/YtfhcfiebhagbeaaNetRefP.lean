/-
  Layer 11, the document's net: Spoil. Conditions: none.
-/
import Derived.Test.YtfhcfiebhagbeaaNetRefT
import Derived.Test.YtfhcfiebhagbeaaNetSpo
namespace Go.Proofs.Ytfhcfiebhagbeaa.Net
set_option maxRecDepth 100000
open Go.RowKit Go.Deep Go.Proofs.Ytfhcfiebhagbeaa.Mem

theorem extract_list (s : ByteArray) (i j : Nat) : (s.extract i j).data.toList = (s.data.toList.take j).drop i := by
  rw [ByteArray.data_extract, Array.toList_extract, List.extract_eq_take_drop, List.drop_take]
theorem spB_eq (s : ByteArray) {a sz : Nat} {y : Int} {q z : UInt8} (hs : s.size = sz) (hq : s.data.toList.getD a 0 = q) (hz : UInt8.ofNat (bits .xor .u8 (q.toNat : Int) y).toNat = z) :
    s.extract 0 a ++ ⟨[z].toArray⟩ ++ s.extract (a + 1) sz = spB s a y := by
  apply ByteArray.ext
  apply Array.ext'
  unfold spB
  have hl := size_list s
  have he : List.take sz s.data.toList = s.data.toList := List.take_of_length_le (by omega)
  rw [ByteArray.data_append, ByteArray.data_append, Array.toList_append, Array.toList_append, extract_list, extract_list, hq, hz, he, List.drop_zero]
  simp
def spoilR (R : Rf) (i a y : Int) : Int × Rf := if hasR R i then (let p := (R.fl[i.toNat]?).getD pk0; if p.spoilt then (9, R) else if a < 0 ∨ (p.bytes.size : Int) ≤ a ∨ y = 0 then (1, R) else (0, { R with fl := R.fl.set i.toNat (spP p a.toNat y) })) else (8, R)
set_option maxHeartbeats 2000000 in
theorem RSpoil_any {B rb ac cc : Nat} {R : Rf} {A C : Option Addr} {w : World} (h : RefAt B w rb R A ac C cc) (i a y : Int) (hB : B ≤ w.heap.size) (hok : ∀ p ∈ R.fl, p.bytes.size ≤ 140737488351232) :
    Calls Try.prog 23 #[.pointer (some ⟨rb, 0, none⟩), .int .i64 i, .int .i64 a, .int .u8 y] w fun e w' => e = .returned (.int .i64 (spoilR R i a y).1) ∧ RStep B rb A C w (spoilR R i a y).2 w' := by
  have HW := Lib.hid h
  obtain ⟨n, hn⟩ : ∃ n, R.fl.length = n := ⟨_, rfl⟩
  have HN := Lib.hid hn
  have hn2 : n ≤ 256 := by rw [← hn]; exact h.len
  have c1 := h.cel.cell (j := 1) rfl
  rw [hn] at c1
  unfold spoilR
  cases hh : hasR R i with
  | false =>
    simp only [Bool.false_eq_true, if_false]
    have hi : i < 0 ∨ (n : Int) ≤ i := by
      unfold hasR at hh
      rw [hn] at hh
      simp at hh
      omega
    clear h hB hh hn hok
    by_cases h0 : i < 0
    · have e1 : decide (i < 0) = true := by simpa using h0
      go_enter Try.func23, Try.ntmps23
      go_wp2_with fail
      go_returns
      exact ⟨rfl, RStep.same HW.out (Below.refl _ _)⟩
    · have e1 : decide (i < 0) = false := by simpa using h0
      have e2 : decide (i ≥ (n : Int)) = true := by simp; omega
      go_enter Try.func23, Try.ntmps23
      go_wp2_with fail
      go_returns
      exact ⟨rfl, RStep.same HW.out (Below.refl _ _)⟩
  | true =>
    simp only [if_true]
    obtain ⟨ii, p0, rfl, hi, hp⟩ := hasR_spec hh
    rw [Int.toNat_natCast, hp, Option.getD_some]
    obtain ⟨g, rfl, hac⟩ := h.addr (by omega)
    have hr := h.at rfl hp
    have x0 := hr 0 _ rfl
    rw [Nat.add_zero] at x0
    have x1 := hr 1 _ rfl
    have x2 := hr 2 _ rfl
    have x3 := hr 3 _ rfl
    have HSM : Hid (p0.bytes.size ≤ 140737488351232) := Lib.hid (hok p0 (List.mem_of_getElem? hp))
    have e1 : decide ((ii : Int) < 0) = false := by simp
    have e2 : decide ((ii : Int) ≥ (n : Int)) = false := by simp; omega
    have e3 : ii < n := by omega
    have HI : Hid (ii < n ∧ n ≤ ac ∧ n ≤ 256 ∧ (R.fl.take ii).length = ii ∧ (R.fl.drop (ii + 1)).length = n - (ii + 1)) := Lib.hid ⟨e3, by rw [← hn]; exact hac, hn2, by rw [List.length_take]; omega, by rw [List.length_drop, hn]⟩
    cases hsp : p0.spoilt with
    | true =>
      rw [hsp] at x3
      simp only [if_true]
      clear h hB hh hn hi hp hac hr hok hsp
      go_enter Try.func23, Try.ntmps23
      go_wp2_with fail
      go_returns
      exact ⟨rfl, RStep.same HW.out (by first | exact below_alloc _ _ | exact (Below.refl _ _))⟩
    | false =>
      rw [hsp] at x3
      simp only [Bool.false_eq_true, if_false]
      obtain ⟨sz, hsz⟩ : ∃ sz, p0.bytes.size = sz := ⟨_, rfl⟩
      have HSZ := Lib.hid hsz
      rw [hsz]
      by_cases h1 : a < 0
      · have e4 : decide (a < 0) = true := by simpa using h1
        rw [if_pos (Or.inl h1)]
        clear h hB hh hn hi hp hac hr hok hsp hsz
        go_enter Try.func23, Try.ntmps23
        go_wp2_with fail
        go_returns
        exact ⟨rfl, RStep.same HW.out (by first | exact below_alloc _ _ | exact (Below.refl _ _))⟩
      · have e4 : decide (a < 0) = false := by simpa using h1
        by_cases h2 : (sz : Int) ≤ a
        · have e5 : decide (a ≥ (p0.bytes.size : Int)) = true := by rw [hsz]; simpa using h2
          rw [if_pos (Or.inr (Or.inl h2))]
          clear h hB hh hn hi hp hac hr hok hsp hsz
          go_enter Try.func23, Try.ntmps23
          go_wp2_with fail
          go_returns
          exact ⟨rfl, RStep.same HW.out (by first | exact below_alloc _ _ | exact (Below.refl _ _))⟩
        · have e5 : decide (a ≥ (p0.bytes.size : Int)) = false := by rw [hsz]; simpa using h2
          by_cases h3 : y = 0
          · have e6 : decide (y = 0) = true := by simpa using h3
            rw [if_pos (Or.inr (Or.inr h3))]
            clear h hB hh hn hi hp hac hr hok hsp hsz
            go_enter Try.func23, Try.ntmps23
            go_wp2_with fail
            go_returns
            exact ⟨rfl, RStep.same HW.out (by first | exact below_alloc _ _ | exact (Below.refl _ _))⟩
          · rw [if_neg (by omega)]
            obtain ⟨a, rfl⟩ := Int.eq_ofNat_of_zero_le (show 0 ≤ a by omega)
            have ha : a < sz := by omega
            rw [Int.toNat_natCast]
            have e7 : decide (sz ≤ a) = false := by simpa using ha
            have e8 : (y == 0) = false := by simpa using h3
            have HA : Hid (a < sz ∧ sz ≤ 140737488351232) := Lib.hid ⟨ha, by rw [← hsz]; exact HSM.out⟩
            obtain ⟨q, hq⟩ : ∃ q, p0.bytes[a]'(by omega) = q := ⟨_, rfl⟩
            have HQ := Lib.hid hq
            have hqd : p0.bytes.data.toList.getD a 0 = q := by
              rw [List.getD_eq_getElem?_getD, Array.getElem?_toList, Array.getElem?_eq_getElem (by have : p0.bytes.data.size = sz := hsz; omega), Option.getD_some]
              exact hq
            have hzr := xor_u8 (q.toNat : Int) y
            obtain ⟨z, hz⟩ : ∃ z : UInt8, bits .xor .u8 (q.toNat : Int) y = (z.toNat : Int) := ⟨UInt8.ofNat (bits .xor .u8 (q.toNat : Int) y).toNat, by rw [UInt8.toNat_ofNat_of_lt' (show _ < 256 by omega)]; omega⟩
            have HZ := Lib.hid hz
            have HNEW := Lib.hid (spB_eq p0.bytes (y := y) (q := q) (z := z) hsz hqd (by rw [hz, Int.toNat_natCast]; exact UInt8.ofNat_toNat))
            obtain ⟨wx, hwx⟩ : ∃ W, W = w.alloc (.cells #[.int .i64 p0.src, .int .i64 p0.dst, .string p0.bytes, .bool false] 42) := ⟨_, rfl⟩
            have hbe : Below w.heap.size w wx := by rw [hwx]; exact below_alloc _ _
            have hce : Cells wx w.heap.size 42 [.int .i64 p0.src, .int .i64 p0.dst, .string p0.bytes, .bool false] := by rw [hwx]; exact cells_new _ _ _ _ rfl
            have HBE := Lib.hid hbe
            have HBB := Lib.hid hB
            obtain ⟨gb, hgb⟩ : ∃ gb, w.heap.size = gb := ⟨_, rfl⟩
            have HGB := Lib.hid hgb
            rw [hgb] at hce
            have HBX : Hid (∀ wi, Below wx.heap.size wx wi → Cells wi gb 42 [.int .i64 p0.src, .int .i64 p0.dst, .string p0.bytes, .bool false]) := Lib.hid (fun wi hb => hce.later hb)
            have HP := Lib.hid hp
            have HAC := Lib.hid hac
            have HI2 := Lib.hid hi
            clear h hB hh hn hi hp hac hr hok hsp hbe hce hq hqd hzr hz hgb e4 e5
            go_enter Try.func23, Try.ntmps23
            go_upto_region 8 with (fail)
            rw [HGB.out, ← hwx]
            clear hwx c1 x0 x1 x2 x3
            refine Reg.region_inv (by kernel_rfl) (fun i => ([some (.pointer (some ⟨gb, 2, none⟩)), some (.string p0.bytes), some (.int .i64 (a : Int)), some (.string (p0.bytes.extract 0 a)), some (.pointer (some ⟨gb, 2, none⟩)), some (.string p0.bytes), some (.int .i64 (a : Int)), some (.int .u8 (q.toNat : Int)), some (.int .u8 y), some (.int .u8 (z.toNat : Int)), none, some (.string (⟨[z].toArray⟩ : ByteArray)), some (.string (p0.bytes.extract 0 a ++ (⟨[z].toArray⟩ : ByteArray))), some (.pointer (some ⟨gb, 2, none⟩)), some (.string p0.bytes), some (.int .i64 (a : Int)), some (.int .i64 ((a : Int) + 1)), some (.string (p0.bytes.extract (a + 1) sz)), some (.string (p0.bytes.extract 0 a ++ (⟨[z].toArray⟩ : ByteArray) ++ p0.bytes.extract (a + 1) sz)), some (.pointer (some ⟨gb, 2, none⟩)), none] : List (Option Value)).getD i none) (fun D V W => (D 20 = false → Below wx.heap.size wx W ∧ (D 10 = true → ∃ g, V 10 = .slice (some ⟨g, 0, none⟩) 1 1 ∧ Cells W g 5 ([z].map bv))) ∧ (D 20 = true → ∃ W0, Below wx.heap.size wx W0 ∧ W = W0.setCell ⟨gb, 2, none⟩ (.string (p0.bytes.extract 0 a ++ (⟨[z].toArray⟩ : ByteArray) ++ p0.bytes.extract (a + 1) sz)))) (fun V => [(some 43, V 0), (some 44, V 1), (some 45, V 2), (some 46, V 3), (some 47, V 4), (some 48, V 5), (some 49, V 6), (some 50, V 7), (some 51, V 8), (some 52, V 9), (some 53, V 10), (some 54, V 11), (some 55, V 12), (some 56, V 13), (some 57, V 14), (some 58, V 15), (some 59, V 16), (some 60, V 17), (some 61, V 18), (some 62, V 19), (none, V 20)]) (by kernel_rfl) (by kernel_rfl) (fun V => rfl) ?_ ?_ ?_
            · intro V
              exact ⟨fun _ => ⟨(Below.refl _ _).drew, fun e => by cases e⟩, fun e => by cases e⟩
            · intro i o ho
              have hi : i < 21 := (Array.getElem?_eq_some_iff.1 ho).1
              rcases i with _ | _ | _ | _ | _ | _ | _ | _ | _ | _ | _ | _ | _ | _ | _ | _ | _ | _ | _ | _ | _ | i
              rotate_right
              · omega
              all_goals obtain rfl := Option.some.inj ho
              all_goals intro D V ρ wi hE hI hDi hT hF hs hd hk
              · have e9 : ρ (.tmp 9) = .pointer (some ⟨gb, 0, none⟩) := hs 9; clear hT hF hk
                exact Reg.Gives.value (v := .pointer (some ⟨gb, 2, none⟩)) (w' := wi) (by go_simp) ⟨fun x h => Option.some.inj h, hI⟩
              · have e43 : ρ (.tmp 43) = .pointer (some ⟨gb, 2, none⟩) := (hd 0 43).trans (hk 0 _ rfl); have hD20 : D 20 = false := hF 1 20; clear hT hF; have hL : Below wx.heap.size wx wi := (hI.1 hD20).1; have y2 := (HBX.out wi hL).cell (j := 2) rfl
                exact Reg.Gives.value (v := .string p0.bytes) (w' := wi) (by go_simp) ⟨fun x h => Option.some.inj h, hI⟩
              · have e2 : ρ (.tmp 2) = .int .i64 (a : Int) := hs 2; clear hT hF hk
                exact Reg.Gives.value (v := .int .i64 (a : Int)) (w' := wi) (by go_simp) ⟨fun x h => Option.some.inj h, hI⟩
              · have e44 : ρ (.tmp 44) = .string p0.bytes := (hd 1 44).trans (hk 1 _ rfl); have e45 : ρ (.tmp 45) = .int .i64 (a : Int) := (hd 2 45).trans (hk 2 _ rfl); have hD20 : D 20 = false := hF 1 20; clear hT hF; have hL : Below wx.heap.size wx wi := (hI.1 hD20).1; have hsz := HSZ.out
                have z1 : (0 : Int) ≤ (a : Int) := by omega
                have z2 : (a : Int) ≤ (sz : Int) := by have := HA.out; omega
                have z3 : a ≤ sz := by omega
                exact Reg.Gives.value (v := .string (p0.bytes.extract 0 a)) (w' := wi) (by go_simp) ⟨fun x h => Option.some.inj h, hI⟩
              · have e9 : ρ (.tmp 9) = .pointer (some ⟨gb, 0, none⟩) := hs 9; clear hT hF hk
                exact Reg.Gives.value (v := .pointer (some ⟨gb, 2, none⟩)) (w' := wi) (by go_simp) ⟨fun x h => Option.some.inj h, hI⟩
              · have e47 : ρ (.tmp 47) = .pointer (some ⟨gb, 2, none⟩) := (hd 4 47).trans (hk 4 _ rfl); have hD20 : D 20 = false := hF 1 20; clear hT hF; have hL : Below wx.heap.size wx wi := (hI.1 hD20).1; have y2 := (HBX.out wi hL).cell (j := 2) rfl
                exact Reg.Gives.value (v := .string p0.bytes) (w' := wi) (by go_simp) ⟨fun x h => Option.some.inj h, hI⟩
              · have e2 : ρ (.tmp 2) = .int .i64 (a : Int) := hs 2; clear hT hF hk
                exact Reg.Gives.value (v := .int .i64 (a : Int)) (w' := wi) (by go_simp) ⟨fun x h => Option.some.inj h, hI⟩
              · have e48 : ρ (.tmp 48) = .string p0.bytes := (hd 5 48).trans (hk 5 _ rfl); have e49 : ρ (.tmp 49) = .int .i64 (a : Int) := (hd 6 49).trans (hk 6 _ rfl); have hD20 : D 20 = false := hF 1 20; clear hT hF; have hL : Below wx.heap.size wx wi := (hI.1 hD20).1; have hsz := HSZ.out
                have z1 : (a : Int) < (sz : Int) := by have := HA.out; omega
                have z2 : a < sz := by omega
                have hq := HQ.out
                exact Reg.Gives.value (v := .int .u8 (q.toNat : Int)) (w' := wi) (by go_simp) ⟨fun x h => Option.some.inj h, hI⟩
              · have e3 : ρ (.tmp 3) = .int .u8 y := hs 3; clear hT hF hk
                exact Reg.Gives.value (v := .int .u8 y) (w' := wi) (by go_simp) ⟨fun x h => Option.some.inj h, hI⟩
              · have e50 : ρ (.tmp 50) = .int .u8 (q.toNat : Int) := (hd 7 50).trans (hk 7 _ rfl); have e51 : ρ (.tmp 51) = .int .u8 y := (hd 8 51).trans (hk 8 _ rfl); have hD20 : D 20 = false := hF 1 20; clear hT hF; have hL : Below wx.heap.size wx wi := (hI.1 hD20).1; have hz := HZ.out
                exact Reg.Gives.value (v := .int .u8 (z.toNat : Int)) (w' := wi) (by go_simp) ⟨fun x h => Option.some.inj h, hI⟩
              · have e52 : ρ (.tmp 52) = .int .u8 (z.toNat : Int) := (hd 9 52).trans (hk 9 _ rfl); have hD20 : D 20 = false := hF 1 20; clear hT hF; have h1 := hI.1 hD20; have hal := below_alloc wi (.cells #[.int .u8 (z.toNat : Int)] 5)
                exact Reg.Gives.value (v := .slice (some ⟨wi.heap.size, 0, none⟩) 1 1) (w' := wi.alloc (.cells #[.int .u8 (z.toNat : Int)] 5)) (by go_simp) ⟨fun x h => (by cases h), by show (D 20 = false → Below wx.heap.size wx (wi.alloc (.cells #[.int .u8 (z.toNat : Int)] 5)) ∧ (true = true → ∃ g, Value.slice (some ⟨wi.heap.size, 0, none⟩) 1 1 = .slice (some ⟨g, 0, none⟩) 1 1 ∧ Cells (wi.alloc (.cells #[.int .u8 (z.toNat : Int)] 5)) g 5 ([z].map bv))) ∧ (D 20 = true → ∃ W0, Below wx.heap.size wx W0 ∧ (wi.alloc (.cells #[.int .u8 (z.toNat : Int)] 5)) = W0.setCell ⟨gb, 2, none⟩ (.string (p0.bytes.extract 0 a ++ (⟨[z].toArray⟩ : ByteArray) ++ p0.bytes.extract (a + 1) sz))); exact ⟨fun _ => ⟨h1.1.trans (hal.mono h1.1.size), fun _ => ⟨_, rfl, cells_new _ _ _ _ rfl⟩⟩, fun e => by rw [hD20] at e; cases e⟩⟩
              · have e53 : ρ (.tmp 53) = V 10 := hd 10 53; have hD10 : D 10 = true := hT 1 10; have hD20 : D 20 = false := hF 1 20; clear hT hF; have h1 := hI.1 hD20; obtain ⟨g2, hv2, hcs⟩ := h1.2 hD10
                rw [hv2] at e53
                have hback := string_back (P := Try.prog) (cap := 1) (n := 1) Try.underlying78 Try.underlying5 Try.underlying9 hcs rfl
                exact Reg.Gives.value (v := .string (⟨[z].toArray⟩ : ByteArray)) (w' := wi) (by go_simp) ⟨fun x h => Option.some.inj h, hI⟩
              · have e46 : ρ (.tmp 46) = .string (p0.bytes.extract 0 a) := (hd 3 46).trans (hk 3 _ rfl); have e54 : ρ (.tmp 54) = .string (⟨[z].toArray⟩ : ByteArray) := (hd 11 54).trans (hk 11 _ rfl); clear hT hF; have hA := HA.out; have hsz := HSZ.out
                exact Reg.Gives.value (v := .string (p0.bytes.extract 0 a ++ (⟨[z].toArray⟩ : ByteArray))) (w' := wi) (by go_simp; all_goals omega) ⟨fun x h => Option.some.inj h, hI⟩
              · have e9 : ρ (.tmp 9) = .pointer (some ⟨gb, 0, none⟩) := hs 9; clear hT hF hk
                exact Reg.Gives.value (v := .pointer (some ⟨gb, 2, none⟩)) (w' := wi) (by go_simp) ⟨fun x h => Option.some.inj h, hI⟩
              · have e56 : ρ (.tmp 56) = .pointer (some ⟨gb, 2, none⟩) := (hd 13 56).trans (hk 13 _ rfl); have hD20 : D 20 = false := hF 1 20; clear hT hF; have hL : Below wx.heap.size wx wi := (hI.1 hD20).1; have y2 := (HBX.out wi hL).cell (j := 2) rfl
                exact Reg.Gives.value (v := .string p0.bytes) (w' := wi) (by go_simp) ⟨fun x h => Option.some.inj h, hI⟩
              · have e2 : ρ (.tmp 2) = .int .i64 (a : Int) := hs 2; clear hT hF hk
                exact Reg.Gives.value (v := .int .i64 (a : Int)) (w' := wi) (by go_simp) ⟨fun x h => Option.some.inj h, hI⟩
              · have e58 : ρ (.tmp 58) = .int .i64 (a : Int) := (hd 15 58).trans (hk 15 _ rfl); have hc := hE.const; have hD20 : D 20 = false := hF 1 20; clear hT hF; have hL : Below wx.heap.size wx wi := (hI.1 hD20).1
                have z0 : IntKind.i64.wrap ((a : Int) + 1) = (a : Int) + 1 := IntWalk.i64_in _ (by have := HA.out; omega)
                exact Reg.Gives.value (v := .int .i64 ((a : Int) + 1)) (w' := wi) (by go_simp) ⟨fun x h => Option.some.inj h, hI⟩
              · have e57 : ρ (.tmp 57) = .string p0.bytes := (hd 14 57).trans (hk 14 _ rfl); have e59 : ρ (.tmp 59) = .int .i64 ((a : Int) + 1) := (hd 16 59).trans (hk 16 _ rfl); have hD20 : D 20 = false := hF 1 20; clear hT hF; have hL : Below wx.heap.size wx wi := (hI.1 hD20).1; have hsz := HSZ.out
                have z1 : (0 : Int) ≤ (a : Int) + 1 := by omega
                have z2 : (a : Int) + 1 ≤ (sz : Int) := by have := HA.out; omega
                have z4 : a + 1 ≤ sz := by omega
                have z3 : ((a : Int) + 1).toNat = a + 1 := by omega
                exact Reg.Gives.value (v := .string (p0.bytes.extract (a + 1) sz)) (w' := wi) (by go_simp) ⟨fun x h => Option.some.inj h, hI⟩
              · have e55 : ρ (.tmp 55) = .string (p0.bytes.extract 0 a ++ (⟨[z].toArray⟩ : ByteArray)) := (hd 12 55).trans (hk 12 _ rfl); have e60 : ρ (.tmp 60) = .string (p0.bytes.extract (a + 1) sz) := (hd 17 60).trans (hk 17 _ rfl); clear hT hF; have hA := HA.out; have hsz := HSZ.out
                exact Reg.Gives.value (v := .string (p0.bytes.extract 0 a ++ (⟨[z].toArray⟩ : ByteArray) ++ p0.bytes.extract (a + 1) sz)) (w' := wi) (by go_simp; all_goals omega) ⟨fun x h => Option.some.inj h, hI⟩
              · have e9 : ρ (.tmp 9) = .pointer (some ⟨gb, 0, none⟩) := hs 9; clear hT hF hk
                exact Reg.Gives.value (v := .pointer (some ⟨gb, 2, none⟩)) (w' := wi) (by go_simp) ⟨fun x h => Option.some.inj h, hI⟩
              · have e62 : ρ (.tmp 62) = .pointer (some ⟨gb, 2, none⟩) := (hd 19 62).trans (hk 19 _ rfl); have e61 : ρ (.tmp 61) = .string (p0.bytes.extract 0 a ++ (⟨[z].toArray⟩ : ByteArray) ++ p0.bytes.extract (a + 1) sz) := (hd 18 61).trans (hk 18 _ rfl); have hD20 : D 20 = false := hDi; clear hT hF; have h1 := hI.1 hD20; have hc := HBX.out wi h1.1; have y2 := hc.cell (j := 2) rfl
                have y3 := hc.frozen (j := 2) (by simp)
                exact Reg.Gives.skip (w' := wi.setCell ⟨gb, 2, none⟩ (.string (p0.bytes.extract 0 a ++ (⟨[z].toArray⟩ : ByteArray) ++ p0.bytes.extract (a + 1) sz))) (by go_simp) ⟨fun x h => (by cases h), by show (true = false → Below wx.heap.size wx (wi.setCell ⟨gb, 2, none⟩ (.string (p0.bytes.extract 0 a ++ (⟨[z].toArray⟩ : ByteArray) ++ p0.bytes.extract (a + 1) sz))) ∧ (D 10 = true → ∃ g, V 10 = .slice (some ⟨g, 0, none⟩) 1 1 ∧ Cells (wi.setCell ⟨gb, 2, none⟩ (.string (p0.bytes.extract 0 a ++ (⟨[z].toArray⟩ : ByteArray) ++ p0.bytes.extract (a + 1) sz))) g 5 ([z].map bv))) ∧ (true = true → ∃ W0, Below wx.heap.size wx W0 ∧ (wi.setCell ⟨gb, 2, none⟩ (.string (p0.bytes.extract 0 a ++ (⟨[z].toArray⟩ : ByteArray) ++ p0.bytes.extract (a + 1) sz))) = W0.setCell ⟨gb, 2, none⟩ (.string (p0.bytes.extract 0 a ++ (⟨[z].toArray⟩ : ByteArray) ++ p0.bytes.extract (a + 1) sz))); exact ⟨fun e => (by cases e), fun _ => ⟨wi, h1.1, rfl⟩⟩⟩
            · intro V wf hk hI
              simp only [Reg.putsO, List.foldl_cons, List.foldl_nil, Act.put, List.setIfInBounds_toArray, List.set_cons_succ, List.set_cons_zero]
              replace hI : ((fun _ => true) 20 = false → Below wx.heap.size wx wf ∧ ((fun _ => true) 10 = true → ∃ g, V 10 = .slice (some ⟨g, 0, none⟩) 1 1 ∧ Cells wf g 5 ([z].map bv))) ∧ ((fun _ => true) 20 = true → ∃ W0, Below wx.heap.size wx W0 ∧ wf = W0.setCell ⟨gb, 2, none⟩ (.string (p0.bytes.extract 0 a ++ (⟨[z].toArray⟩ : ByteArray) ++ p0.bytes.extract (a + 1) sz))) := hI
              clear hk
              obtain ⟨W0, hW0, rfl⟩ := hI.2 rfl
              clear hI
              have hc0 := HBX.out W0 hW0
              have y3 := (hc0.set_ 2 (.string (p0.bytes.extract 0 a ++ ⟨[z].toArray⟩ ++ p0.bytes.extract (a + 1) sz))).cell (j := 3) (u := .bool false) rfl
              have y4 := (hc0.set_ 2 (.string (p0.bytes.extract 0 a ++ ⟨[z].toArray⟩ ++ p0.bytes.extract (a + 1) sz))).frozen (j := 3) (by simp)
              have hc1 := (hc0.set_ 2 (.string (p0.bytes.extract 0 a ++ ⟨[z].toArray⟩ ++ p0.bytes.extract (a + 1) sz))).set_ 3 (.bool true)
              have hb1 : Below w.heap.size w (W0.setCell ⟨gb, 2, none⟩ (.string (p0.bytes.extract 0 a ++ ⟨[z].toArray⟩ ++ p0.bytes.extract (a + 1) sz))) := (HBE.out.trans (hW0.mono HBE.out.size)).setCell (by rw [HGB.out]; exact Nat.le_refl _) _
              have hb2 := hb1.setCell (p := ⟨gb, 3, none⟩) (by rw [HGB.out]; exact Nat.le_refl _) (.bool true)
              rw [HNEW.out] at hc1 hb1 hb2 y3 y4
              rw [HNEW.out]
              generalize W0.setCell ⟨gb, 2, none⟩ (.string (spB p0.bytes a y)) = w8 at *
              obtain ⟨we, hwe⟩ : ∃ W, W = w8.setCell ⟨gb, 3, none⟩ (.bool true) := ⟨_, rfl⟩
              rw [← hwe] at hc1 hb2
              have HC1 := Lib.hid hc1
              have HB2 := Lib.hid hb2
              clear hW0 hc0 hb1 hc1 hb2 HBX
              go_upto_region 10 with (fail)
              rw [← hwe]
              clear HQ HZ HNEW hwe y3 y4 h3 e1 e2 e7 e8
              have HR := Lib.hid (HW.out.later HB2.out)
              have HBW := Lib.hid (Nat.le_trans HBB.out HB2.out.size)
              obtain ⟨p, hp⟩ : ∃ p, spP p0 a y = p := ⟨_, rfl⟩
              have hbx : Cells we gb 42 p.vals := by rw [← hp]; exact HC1.out
              have HBX : Hid (∀ wi, Below we.heap.size we wi → Cells wi gb 42 p.vals) := Lib.hid (fun wi hb => hbx.later hb)
              have HPE := Lib.hid hp
              obtain ⟨AD, hAD, hDS⟩ := HR.out.behind HI2.out HAC.out
              have HAD := Lib.hid hAD
              have HDS := Lib.hid hDS
              have HTS : Hid (∀ wi, Below we.heap.size we wi → Sl wi (some ⟨g, 0, none⟩) 4 ((R.fl.take ii).map Pk.vals)) := Lib.hid (fun wi hb => by rw [List.map_take]; exact sl_take (HR.out.later hb).sl.1 ii)
              have HFL : Hid ((R.fl.take ii ++ [p] ++ R.fl.drop (ii + 1)).length ≤ 256) := Lib.hid (by have := HI.out; rw [List.length_append, List.length_append, List.length_singleton]; omega)
              have HSET : Hid (R.fl.take ii ++ [p] ++ R.fl.drop (ii + 1) = R.fl.set ii p) := Lib.hid (by rw [List.set_eq_take_append_cons_drop, if_pos HI2.out]; simp)
              clear hp hbx hAD hDS HC1
              refine Reg.region_inv (by kernel_rfl) (fun i => ([some (.pointer (some ⟨rb, 0, none⟩)), none, some (.pointer (some ⟨rb, 0, none⟩)), some (.pointer (some ⟨rb, 0, none⟩)), some (.pointer (some ⟨rb, 1, none⟩)), some (.slice (some ⟨g, 0, none⟩) n ac), some (.int .i64 (ii : Int)), some (.slice (some ⟨g, 0, none⟩) ii ac), none, some (.agg #[.int .i64 p.src, .int .i64 p.dst, .string p.bytes, .bool p.spoilt]), none, none, some (.pointer (some ⟨rb, 0, none⟩)), some (.pointer (some ⟨rb, 0, none⟩)), some (.pointer (some ⟨rb, 1, none⟩)), some (.slice (some ⟨g, 0, none⟩) n ac), some (.int .i64 (ii : Int)), some (.int .i64 ((ii : Int) + 1)), some (.slice (some AD) (n - (ii + 1)) (ac - (ii + 1))), none, some (.pointer (some ⟨rb, 0, none⟩)), some (.pointer (some ⟨rb, 1, none⟩)), none] : List (Option Value)).getD i none) (fun D V W => (D 22 = false → Ap we (D 1) (cond (D 19) (V 19) (cond (D 11) (V 11) (cond (D 8) (V 8) (V 1)))) (cond (D 19) (R.fl.take ii ++ [p] ++ R.fl.drop (ii + 1)) (cond (D 11) (R.fl.take ii ++ [p]) (cond (D 8) (R.fl.take ii) ([])))) (D 10) (V 10) p W) ∧ (D 22 = true → RStep B rb (some ⟨g, 0, none⟩) C we { R with fl := R.fl.take ii ++ [p] ++ R.fl.drop (ii + 1) } W)) (fun V => [(some 64, V 0), (some 65, V 1), (some 66, V 2), (some 67, V 3), (some 68, V 4), (some 69, V 5), (some 70, V 6), (some 71, V 7), (some 72, V 8), (some 73, V 9), (some 74, V 10), (some 75, V 11), (some 76, V 12), (some 77, V 13), (some 78, V 14), (some 79, V 15), (some 80, V 16), (some 81, V 17), (some 82, V 18), (some 83, V 19), (some 84, V 20), (some 85, V 21), (none, V 22)]) (by kernel_rfl) (by kernel_rfl) (fun V => rfl) ?_ ?_ ?_
              · intro V
                exact ⟨fun _ => Ap.start (Below.refl _ _).drew _ _ _ _, fun e => (by cases e)⟩
              · intro i o ho
                have hi : i < 23 := (Array.getElem?_eq_some_iff.1 ho).1
                rcases i with _ | _ | _ | _ | _ | _ | _ | _ | _ | _ | _ | _ | _ | _ | _ | _ | _ | _ | _ | _ | _ | _ | _ | i
                rotate_right
                · omega
                all_goals obtain rfl := Option.some.inj ho
                all_goals intro D V ρ wi hE hI hDi hT hF hs hd hk
                · have e0 : ρ (.tmp 0) = .pointer (some ⟨rb, 0, none⟩) := hs 0; clear hT hF hk
                  exact Reg.Gives.value (v := .pointer (some ⟨rb, 0, none⟩)) (w' := wi) (by go_simp) ⟨fun x h => Option.some.inj h, hI⟩
                · have hD1 : D 1 = false := hDi; have hD8 : D 8 = false := hF 1 8; have hD11 : D 11 = false := hF 2 11; have hD19 : D 19 = false := hF 3 19; have hD22 : D 22 = false := hF 1 22; clear hT hF; have h1 := hI.1 hD22
                  rw [hD1] at h1
                  rw [hD8] at h1
                  rw [hD11] at h1
                  rw [hD19] at h1
                  simp only [cond_false] at h1
                  exact Reg.Gives.value (v := .slice (some ⟨wi.heap.size, 0, none⟩) 0 0) (w' := wi.alloc (.cells #[] 42)) (by go_simp) ⟨fun x h => (by cases h), by show ((D 22) = false → Ap we true (cond (D 19) (V 19) (cond (D 11) (V 11) (cond (D 8) (V 8) (.slice (some ⟨wi.heap.size, 0, none⟩) 0 0)))) (cond (D 19) (R.fl.take ii ++ [p] ++ R.fl.drop (ii + 1)) (cond (D 11) (R.fl.take ii ++ [p]) (cond (D 8) (R.fl.take ii) []))) (D 10) (V 10) p (wi.alloc (.cells #[] 42))) ∧ ((D 22) = true → RStep B rb (some ⟨g, 0, none⟩) C we { R with fl := R.fl.take ii ++ [p] ++ R.fl.drop (ii + 1) } (wi.alloc (.cells #[] 42))); rw [hD8, hD11, hD19, hD22]; simp only [cond_false]; exact ⟨fun _ => h1.mkz, fun e => by cases e⟩⟩
                · have e0 : ρ (.tmp 0) = .pointer (some ⟨rb, 0, none⟩) := hs 0; clear hT hF hk
                  exact Reg.Gives.value (v := .pointer (some ⟨rb, 0, none⟩)) (w' := wi) (by go_simp) ⟨fun x h => Option.some.inj h, hI⟩
                · have e66 : ρ (.tmp 66) = .pointer (some ⟨rb, 0, none⟩) := (hd 2 66).trans (hk 2 _ rfl); clear hT hF hk
                  exact Reg.Gives.value (v := .pointer (some ⟨rb, 0, none⟩)) (w' := wi) (by go_simp) ⟨fun x h => Option.some.inj h, hI⟩
                · have e67 : ρ (.tmp 67) = .pointer (some ⟨rb, 0, none⟩) := (hd 3 67).trans (hk 3 _ rfl); clear hT hF hk
                  exact Reg.Gives.value (v := .pointer (some ⟨rb, 1, none⟩)) (w' := wi) (by go_simp) ⟨fun x h => Option.some.inj h, hI⟩
                · have e68 : ρ (.tmp 68) = .pointer (some ⟨rb, 1, none⟩) := (hd 4 68).trans (hk 4 _ rfl); have hD22 : D 22 = false := hF 1 22; clear hT hF; have hL : Below we.heap.size we wi := (hI.1 hD22).low; have x0 := (HR.out.later hL).cel.cell (j := 1) rfl
                  rw [HN.out] at x0
                  exact Reg.Gives.value (v := .slice (some ⟨g, 0, none⟩) n ac) (w' := wi) (by go_simp) ⟨fun x h => Option.some.inj h, hI⟩
                · have e1 : ρ (.tmp 1) = .int .i64 (ii : Int) := hs 1; clear hT hF hk
                  exact Reg.Gives.value (v := .int .i64 (ii : Int)) (w' := wi) (by go_simp) ⟨fun x h => Option.some.inj h, hI⟩
                · have e69 : ρ (.tmp 69) = .slice (some ⟨g, 0, none⟩) n ac := (hd 5 69).trans (hk 5 _ rfl); have e70 : ρ (.tmp 70) = .int .i64 (ii : Int) := (hd 6 70).trans (hk 6 _ rfl); have hD22 : D 22 = false := hF 1 22; clear hT hF; have hL : Below we.heap.size we wi := (hI.1 hD22).low; have z0 := HI.out.1
                  have z1 : ii ≤ ac := by have := HI.out; omega
                  have z2 : ii ≤ n := by have := HI.out; omega
                  have z3 : (ii : Int) ≤ (ac : Int) := by omega
                  exact Reg.Gives.value (v := .slice (some ⟨g, 0, none⟩) ii ac) (w' := wi) (by go_simp) ⟨fun x h => Option.some.inj h, hI⟩
                · have e65 : ρ (.tmp 65) = V 1 := hd 1 65; have e71 : ρ (.tmp 71) = .slice (some ⟨g, 0, none⟩) ii ac := (hd 7 71).trans (hk 7 _ rfl); have hD1 : D 1 = true := hT 1 1; have hD8 : D 8 = false := hDi; have hD11 : D 11 = false := hF 1 11; have hD19 : D 19 = false := hF 2 19; have hD22 : D 22 = false := hF 1 22; clear hT hF; have h1 := hI.1 hD22
                  rw [hD1] at h1
                  rw [hD8] at h1
                  rw [hD11] at h1
                  rw [hD19] at h1
                  simp only [cond_false] at h1
                  have hL := h1.low
                  obtain ⟨A2, n2, c2, w2, hrun, hn⟩ := h1.app (m := R.fl.take ii) (HTS.out wi hL) (fun e => by cases e) (by have := HR.out.len; simp; omega)
                  rw [HI.out.2.2.2.1] at hrun
                  exact Reg.Gives.value (v := .slice A2 n2 c2) (w' := w2) (Reg.exec_append rfl e65 e71 hrun) ⟨fun x h => (by cases h), by show ((D 22) = false → Ap we (D 1) (cond (D 19) (V 19) (cond (D 11) (V 11) (cond true (.slice A2 n2 c2) (V 1)))) (cond (D 19) (R.fl.take ii ++ [p] ++ R.fl.drop (ii + 1)) (cond (D 11) (R.fl.take ii ++ [p]) (cond true (R.fl.take ii) []))) (D 10) (V 10) p w2) ∧ ((D 22) = true → RStep B rb (some ⟨g, 0, none⟩) C we { R with fl := R.fl.take ii ++ [p] ++ R.fl.drop (ii + 1) } w2); rw [hD1, hD11, hD19, hD22]; simp only [cond_false, cond_true]; exact ⟨fun _ => hn, fun e => by cases e⟩⟩
                · have e9 : ρ (.tmp 9) = .pointer (some ⟨gb, 0, none⟩) := hs 9; have hD22 : D 22 = false := hF 1 22; clear hT hF; have hL : Below we.heap.size we wi := (hI.1 hD22).low; have hq := HBX.out wi hL; have y0 := hq.cell (j := 0) rfl; have y1 := hq.cell (j := 1) rfl; have y2 := hq.cell (j := 2) rfl; have y3 := hq.cell (j := 3) rfl
                  exact Reg.Gives.value (v := .agg #[.int .i64 p.src, .int .i64 p.dst, .string p.bytes, .bool p.spoilt]) (w' := wi) (by go_simp) ⟨fun x h => Option.some.inj h, hI⟩
                · have e73 : ρ (.tmp 73) = .agg #[.int .i64 p.src, .int .i64 p.dst, .string p.bytes, .bool p.spoilt] := (hd 9 73).trans (hk 9 _ rfl); have hD10 : D 10 = false := hDi; have hD22 : D 22 = false := hF 1 22; clear hT hF; have h1 := hI.1 hD22
                  rw [hD10] at h1
                  exact Reg.Gives.value (v := .slice (some ⟨wi.heap.size, 0, none⟩) 1 1) (w' := wi.alloc (.cells #[.int .i64 p.src, .int .i64 p.dst, .string p.bytes, .bool p.spoilt] 42)) (by go_simp) ⟨fun x h => (by cases h), by show ((D 22) = false → Ap we (D 1) (cond (D 19) (V 19) (cond (D 11) (V 11) (cond (D 8) (V 8) (V 1)))) (cond (D 19) (R.fl.take ii ++ [p] ++ R.fl.drop (ii + 1)) (cond (D 11) (R.fl.take ii ++ [p]) (cond (D 8) (R.fl.take ii) []))) true (.slice (some ⟨wi.heap.size, 0, none⟩) 1 1) p (wi.alloc (.cells #[.int .i64 p.src, .int .i64 p.dst, .string p.bytes, .bool p.spoilt] 42))) ∧ ((D 22) = true → RStep B rb (some ⟨g, 0, none⟩) C we { R with fl := R.fl.take ii ++ [p] ++ R.fl.drop (ii + 1) } (wi.alloc (.cells #[.int .i64 p.src, .int .i64 p.dst, .string p.bytes, .bool p.spoilt] 42))); rw [hD22]; exact ⟨fun _ => h1.mkx, fun e => by cases e⟩⟩
                · have e72 : ρ (.tmp 72) = V 8 := hd 8 72; have e74 : ρ (.tmp 74) = V 10 := hd 10 74; have hD1 : D 1 = true := hT 2 1; have hD8 : D 8 = true := hT 1 8; have hD10 : D 10 = true := hT 1 10; have hD11 : D 11 = false := hDi; have hD19 : D 19 = false := hF 1 19; have hD22 : D 22 = false := hF 1 22; clear hT hF; have h1 := hI.1 hD22
                  rw [hD1] at h1
                  rw [hD8] at h1
                  rw [hD11] at h1
                  rw [hD19] at h1
                  simp only [cond_false, cond_true] at h1
                  rw [hD10] at h1
                  obtain ⟨g2, A2, n2, c2, w2, hx2, hrun, hn⟩ := h1.one (by have := HR.out.len; simp; omega)
                  rw [hx2] at e74
                  exact Reg.Gives.value (v := .slice A2 n2 c2) (w' := w2) (Reg.exec_append rfl e72 e74 hrun) ⟨fun x h => (by cases h), by show ((D 22) = false → Ap we (D 1) (cond (D 19) (V 19) (cond true (.slice A2 n2 c2) (cond (D 8) (V 8) (V 1)))) (cond (D 19) (R.fl.take ii ++ [p] ++ R.fl.drop (ii + 1)) (cond true (R.fl.take ii ++ [p]) (cond (D 8) (R.fl.take ii) []))) (D 10) (V 10) p w2) ∧ ((D 22) = true → RStep B rb (some ⟨g, 0, none⟩) C we { R with fl := R.fl.take ii ++ [p] ++ R.fl.drop (ii + 1) } w2); rw [hD1, hD8, hD19, hD10, hD22]; simp only [cond_false, cond_true]; exact ⟨fun _ => hn, fun e => by cases e⟩⟩
                · have e0 : ρ (.tmp 0) = .pointer (some ⟨rb, 0, none⟩) := hs 0; clear hT hF hk
                  exact Reg.Gives.value (v := .pointer (some ⟨rb, 0, none⟩)) (w' := wi) (by go_simp) ⟨fun x h => Option.some.inj h, hI⟩
                · have e76 : ρ (.tmp 76) = .pointer (some ⟨rb, 0, none⟩) := (hd 12 76).trans (hk 12 _ rfl); clear hT hF hk
                  exact Reg.Gives.value (v := .pointer (some ⟨rb, 0, none⟩)) (w' := wi) (by go_simp) ⟨fun x h => Option.some.inj h, hI⟩
                · have e77 : ρ (.tmp 77) = .pointer (some ⟨rb, 0, none⟩) := (hd 13 77).trans (hk 13 _ rfl); clear hT hF hk
                  exact Reg.Gives.value (v := .pointer (some ⟨rb, 1, none⟩)) (w' := wi) (by go_simp) ⟨fun x h => Option.some.inj h, hI⟩
                · have e78 : ρ (.tmp 78) = .pointer (some ⟨rb, 1, none⟩) := (hd 14 78).trans (hk 14 _ rfl); have hD22 : D 22 = false := hF 1 22; clear hT hF; have hL : Below we.heap.size we wi := (hI.1 hD22).low; have x0 := (HR.out.later hL).cel.cell (j := 1) rfl
                  rw [HN.out] at x0
                  exact Reg.Gives.value (v := .slice (some ⟨g, 0, none⟩) n ac) (w' := wi) (by go_simp) ⟨fun x h => Option.some.inj h, hI⟩
                · have e1 : ρ (.tmp 1) = .int .i64 (ii : Int) := hs 1; clear hT hF hk
                  exact Reg.Gives.value (v := .int .i64 (ii : Int)) (w' := wi) (by go_simp) ⟨fun x h => Option.some.inj h, hI⟩
                · have e80 : ρ (.tmp 80) = .int .i64 (ii : Int) := (hd 16 80).trans (hk 16 _ rfl); have hc := hE.const; have hD22 : D 22 = false := hF 1 22; clear hT hF; have hL : Below we.heap.size we wi := (hI.1 hD22).low
                  have z0 : IntKind.i64.wrap ((ii : Int) + 1) = (ii : Int) + 1 := IntWalk.i64_in _ (by have := HI.out; omega)
                  exact Reg.Gives.value (v := .int .i64 ((ii : Int) + 1)) (w' := wi) (by go_simp) ⟨fun x h => Option.some.inj h, hI⟩
                · have e79 : ρ (.tmp 79) = .slice (some ⟨g, 0, none⟩) n ac := (hd 15 79).trans (hk 15 _ rfl); have e81 : ρ (.tmp 81) = .int .i64 ((ii : Int) + 1) := (hd 17 81).trans (hk 17 _ rfl); have hD22 : D 22 = false := hF 1 22; clear hT hF; have hL : Below we.heap.size we wi := (hI.1 hD22).low
                  have z1 : ii + 1 ≤ n := by have := HI.out; omega
                  have z2 : ii + 1 ≤ ac := by have := HI.out; omega
                  have z3 : (0 : Int) ≤ (ii : Int) + 1 := by omega
                  have z4 : (ii : Int) + 1 ≤ (n : Int) := by omega
                  have z5 := HAD.out
                  exact Reg.Gives.value (v := .slice (some AD) (n - (ii + 1)) (ac - (ii + 1))) (w' := wi) (by go_simp) ⟨fun x h => Option.some.inj h, hI⟩
                · have e75 : ρ (.tmp 75) = V 11 := hd 11 75; have e82 : ρ (.tmp 82) = .slice (some AD) (n - (ii + 1)) (ac - (ii + 1)) := (hd 18 82).trans (hk 18 _ rfl); have hD1 : D 1 = true := hT 3 1; have hD8 : D 8 = true := hT 2 8; have hD11 : D 11 = true := hT 1 11; have hD19 : D 19 = false := hDi; have hD22 : D 22 = false := hF 1 22; clear hT hF; have h1 := hI.1 hD22
                  rw [hD1] at h1
                  rw [hD8] at h1
                  rw [hD11] at h1
                  rw [hD19] at h1
                  simp only [cond_false, cond_true] at h1
                  have hL := h1.low
                  obtain ⟨A2, n2, c2, w2, hrun, hn⟩ := h1.app (m := R.fl.drop (ii + 1)) (HDS.out wi hL) (fun e => by cases e) (by have := HR.out.len; simp; omega)
                  rw [HI.out.2.2.2.2] at hrun
                  exact Reg.Gives.value (v := .slice A2 n2 c2) (w' := w2) (Reg.exec_append rfl e75 e82 hrun) ⟨fun x h => (by cases h), by show ((D 22) = false → Ap we (D 1) (cond true (.slice A2 n2 c2) (cond (D 11) (V 11) (cond (D 8) (V 8) (V 1)))) (cond true (R.fl.take ii ++ [p] ++ R.fl.drop (ii + 1)) (cond (D 11) (R.fl.take ii ++ [p]) (cond (D 8) (R.fl.take ii) []))) (D 10) (V 10) p w2) ∧ ((D 22) = true → RStep B rb (some ⟨g, 0, none⟩) C we { R with fl := R.fl.take ii ++ [p] ++ R.fl.drop (ii + 1) } w2); rw [hD1, hD8, hD11, hD22]; simp only [cond_true]; exact ⟨fun _ => hn, fun e => by cases e⟩⟩
                · have e64 : ρ (.tmp 64) = .pointer (some ⟨rb, 0, none⟩) := (hd 0 64).trans (hk 0 _ rfl); clear hT hF hk
                  exact Reg.Gives.value (v := .pointer (some ⟨rb, 0, none⟩)) (w' := wi) (by go_simp) ⟨fun x h => Option.some.inj h, hI⟩
                · have e84 : ρ (.tmp 84) = .pointer (some ⟨rb, 0, none⟩) := (hd 20 84).trans (hk 20 _ rfl); clear hT hF hk
                  exact Reg.Gives.value (v := .pointer (some ⟨rb, 1, none⟩)) (w' := wi) (by go_simp) ⟨fun x h => Option.some.inj h, hI⟩
                · have e85 : ρ (.tmp 85) = .pointer (some ⟨rb, 1, none⟩) := (hd 21 85).trans (hk 21 _ rfl); have e83 : ρ (.tmp 83) = V 19 := hd 19 83; have hD1 : D 1 = true := hT 1 1; have hD8 : D 8 = true := hT 1 8; have hD11 : D 11 = true := hT 1 11; have hD19 : D 19 = true := hT 1 19; have hD22 : D 22 = false := hDi; clear hT hF; have h1 := hI.1 hD22
                  rw [hD1] at h1
                  rw [hD8] at h1
                  rw [hD11] at h1
                  rw [hD19] at h1
                  simp only [cond_true] at h1
                  have hac := h1.acc rfl; have hrl := HR.out.later h1.low; have x0 := hrl.cel.cell (j := 1) rfl
                  have x1 := hrl.cel.frozen (j := 1) (by simp)
                  have hfin := HR.out.newL HBW.out h1.low hac (by exact HFL.out)
                  obtain ⟨A2, c2, hv2⟩ := row_slice hac; obtain ⟨n3, hn3⟩ : ∃ n3, List.length (R.fl.take ii ++ [p] ++ R.fl.drop (ii + 1)) = n3 := ⟨_, rfl⟩
                  rw [hn3] at hv2
                  rw [hv2] at hfin
                  have e9 := e83
                  rw [hv2] at e9
                  clear e83
                  exact Reg.Gives.skip (w' := wi.setCell ⟨rb, 1, none⟩ (.slice A2 n3 c2)) (by go_simp) ⟨fun x h => (by cases h), by show (true = false → Ap we (D 1) (cond (D 19) (V 19) (cond (D 11) (V 11) (cond (D 8) (V 8) (V 1)))) (cond (D 19) (R.fl.take ii ++ [p] ++ R.fl.drop (ii + 1)) (cond (D 11) (R.fl.take ii ++ [p]) (cond (D 8) (R.fl.take ii) []))) (D 10) (V 10) p (wi.setCell ⟨rb, 1, none⟩ (.slice A2 n3 c2))) ∧ (true = true → RStep B rb (some ⟨g, 0, none⟩) C we { R with fl := R.fl.take ii ++ [p] ++ R.fl.drop (ii + 1) } (wi.setCell ⟨rb, 1, none⟩ (.slice A2 n3 c2))); exact ⟨fun e => (by cases e), fun _ => hfin⟩⟩
              · intro V wf hk hI
                simp only [Reg.putsO, List.foldl_cons, List.foldl_nil, Act.put, List.setIfInBounds_toArray, List.set_cons_succ, List.set_cons_zero]
                replace hI : ((fun _ => true) 22 = false → Ap we true (cond true (V 19) (cond true (V 11) (cond true (V 8) (V 1)))) (cond true (R.fl.take ii ++ [p] ++ R.fl.drop (ii + 1)) (cond true (R.fl.take ii ++ [p]) (cond true (R.fl.take ii) ([])))) true (V 10) p wf) ∧ ((fun _ => true) 22 = true → RStep B rb (some ⟨g, 0, none⟩) C we { R with fl := R.fl.take ii ++ [p] ++ R.fl.drop (ii + 1) } wf) := hI
                clear hk
                have HS := Lib.hid (hI.2 rfl)
                clear hI
                rw [HSET.out] at HS
                go_wp2_with fail
                go_returns
                exact ⟨rfl, by rw [HPE.out]; exact RStep.before HB2.out HS.out⟩
end Go.Proofs.Ytfhcfiebhagbeaa.Net
