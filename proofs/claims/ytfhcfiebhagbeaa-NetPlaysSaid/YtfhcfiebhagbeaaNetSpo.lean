/-
  Layer 11: Spoil. Conditions: none.
-/
import Derived.Test.YtfhcfiebhagbeaaNetTake
import Derived.Test.YtfhcfiebhagbeaaNetRefT
import Derived.Lib.ConvBytes
import Derived.Lib.UnsafeStr
namespace Go.Proofs.Ytfhcfiebhagbeaa.Net
set_option maxRecDepth 100000
open Go.RowKit Go.Deep Go.Proofs.Ytfhcfiebhagbeaa.Mem

/-- A text's byte at k is made another one. -/
def spB (s : ByteArray) (k : Nat) (y : Int) : ByteArray := ⟨(s.data.toList.take k ++ UInt8.ofNat (bits .xor .u8 ((s.data.toList.getD k 0).toNat : Int) y).toNat :: s.data.toList.drop (k + 1)).toArray⟩
theorem size_list (s : ByteArray) : s.data.toList.length = s.size := by rw [Array.length_toList]; rfl
theorem spB_size {s : ByteArray} {k : Nat} (h : k < s.size) (y : Int) : (spB s k y).size = s.size := by
  have h1 := size_list s
  rw [← size_list]
  unfold spB
  simp
  omega
def spP (p : Pk) (k : Nat) (y : Int) : Pk := ⟨p.src, p.dst, spB p.bytes k y, true⟩
theorem over_part {a b : Value} {x y : Value} {F : List Value} {o : Nat} (h0 : F[o]? = some a) (h1 : F[o + 1]? = some b) : over F (o + 2) [x, y] = over F o [a, b, x, y] := by
  obtain ⟨l0, e0⟩ := List.getElem?_eq_some_iff.1 h0
  obtain ⟨l1, e1⟩ := List.getElem?_eq_some_iff.1 h1
  unfold over
  rw [show o + 2 = o + 1 + 1 from rfl, List.take_succ_eq_append_getElem l1, List.take_succ_eq_append_getElem l0, e0, e1]
  simp [Nat.add_assoc]
/-- A packet is turned in place. -/
theorem NetAt.setPk {base b m c : Nat} {w : World} {N : Nt} {g k : Nat} (h : NetAt base w b m N (some ⟨g, 0, none⟩) c) {p : Pk} (hp : N.fl[k]? = some p) (s : ByteArray) (hs : s.size ≤ 140737488351232) :
    NStep base b m (some ⟨g, 0, none⟩) w { N with fl := N.fl.set k ⟨p.src, p.dst, s, true⟩ } ((w.setCell ⟨g, k * 4 + 2, none⟩ (.string s)).setCell ⟨g, k * 4 + 3, none⟩ (.bool true)) ∧ (w.frozen? ⟨g, k * 4 + 2, none⟩ = false ∧ w.frozen? ⟨g, k * 4 + 3, none⟩ = false) := by
  obtain ⟨hk, e⟩ := List.getElem?_eq_some_iff.1 hp
  have hv := flatten_len (fit_pks N.fl).len
  rw [List.length_map] at hv
  obtain ⟨h1, h2, h3⟩ := row_put h.row (o := k * 4 + 2) (l := [.string s, .bool true]) (by simp; omega) (fun v hv => by
    simp only [List.mem_cons, List.not_mem_nil, or_false] at hv
    rcases hv with rfl | rfl <;> rfl)
  have hat : ∀ j v, p.vals[j]? = some v → (N.fl.map Pk.vals).flatten[k * 4 + j]? = some v := fun j v hj => by
    have hj4 : j < 4 := (List.getElem?_eq_some_iff.1 hj).1
    rw [flatten_at (sz := 4) (fit_pks N.fl).len k (by rw [List.length_map]; exact hk) j hj4, List.getElem_map, e]
    exact hj
  rw [over_part (o := k * 4) (hat 0 _ rfl) (hat 1 _ rfl), over_at (fit_pks N.fl).len (x := [.int .i64 p.src, .int .i64 p.dst, .string s, .bool true]) rfl (by rw [List.length_map]; exact hk),
    show (N.fl.map Pk.vals).set k [.int .i64 p.src, .int .i64 p.dst, .string s, .bool true] = (N.fl.set k ⟨p.src, p.dst, s, true⟩).map Pk.vals by rw [List.map_set]; rfl] at h1
  have hcel := cells_only h.cel h2 fun e2 => h.bA (by rw [e2]; rfl)
  obtain ⟨n, hmap⟩ := h.map
  refine ⟨⟨some ⟨g, 0, none⟩, c, ⟨?_, ?_, ⟨n, hmap.only h2 fun e2 => h.mA (by rw [e2]; rfl)⟩, h.low, h.bm, h.bA, h.mA, h.nodes, by rw [List.length_set]; exact h.len, fun q hq => ?_⟩, h2.mono fun j _ e2 => Or.inr (Or.inr (by rw [e2]; rfl)), fun j e2 => Or.inl e2⟩, (h3 0 (by simp)).2, (h3 1 (by simp)).2⟩
  · rw [List.length_set]
    exact hcel
  · rw [List.length_set]
    exact h1
  · rcases List.mem_or_eq_of_mem_set hq with h5 | rfl
    · exact h.pks q h5
    · have := h.pks p (List.mem_of_getElem? hp)
      exact ⟨this.src, this.dst, hs⟩
theorem bytes_conv {P : Program} (w : World) (src dst e : TypeId) (s : ByteArray) {u : TypeDesc} (hs : P.underlying src = some u) (hd : P.underlying dst = some (.slice e)) (he : P.underlying e = some (.int .u8)) :
    ∃ w' cap, (convert src dst (.string s)).run P w = .ok (.slice (some ⟨w.heap.size, 0, none⟩) s.size cap) w' ∧ Below w.heap.size w w' ∧ Cells w' w.heap.size e (s.data.toList.map bv) := by
  refine ⟨_, _, Lib.run_convert_string_bytes w src dst e s hs hd he, ⟨rfl, rfl, rfl, by rw [Lib.bytesWorld_size]; omega, fun j hj => Lib.bytesWorld_at_old w e s j hj⟩, ⟨Lib.bytesCells w e s, _, _, Lib.bytesWorld_at_new w e s, fun j u hu => ?_, fun j hj h => ?_⟩⟩
  · rw [List.getElem?_map] at hu
    obtain ⟨b, hb, rfl⟩ := Option.map_eq_some_iff.1 hu
    unfold Lib.bytesCells
    rw [Array.getElem?_append_left (by rw [Array.size_map]; have := (List.getElem?_eq_some_iff.1 hb).1; simpa using this), Array.getElem?_map, ← Array.getElem?_toList, hb]
    rfl
  · have : (Lib.bytesCells w e s).size ≥ s.data.size := by unfold Lib.bytesCells; rw [Array.size_append, Array.size_map]; omega
    rw [List.length_map, Array.length_toList] at hj
    omega
theorem xor_u8 (x y : Int) : 0 ≤ bits .xor .u8 x y ∧ bits .xor .u8 x y ≤ 255 := by
  unfold bits
  dsimp only
  rw [IntKind.wrap_u8]
  omega
theorem bv_set (l : List UInt8) (k : Nat) {z : Int} (h : 0 ≤ z ∧ z ≤ 255) : (l.map bv).set k (.int .u8 z) = (l.set k (UInt8.ofNat z.toNat)).map bv := by
  rw [List.map_set]
  congr 1
  unfold bv
  congr 1
  rw [UInt8.toNat_ofNat_of_lt' (show z.toNat < 256 by omega)]
  omega
/-- A packet's byte is made another one. -/
def spoilN (N : Nt) (i a y : Int) : Int × Nt := if hasN N i then (let p := (N.fl[i.toNat]?).getD pk0; if p.spoilt then (9, N) else if a < 0 ∨ (p.bytes.size : Int) ≤ a ∨ y = 0 then (1, N) else (0, { N with fl := N.fl.set i.toNat (spP p a.toNat y) })) else (8, N)
set_option maxHeartbeats 2000000 in
theorem Spoil_any {base b m c : Nat} {w : World} {N : Nt} {A : Option Addr} (h : NetAt base w b m N A c) (i a y : Int) :
    Calls Try.prog 22 #[.pointer (some ⟨b, 0, none⟩), .int .i64 i, .int .i64 a, .int .u8 y] w fun e w' => e = .returned (.int .i64 (spoilN N i a y).1) ∧ NStep base b m A w (spoilN N i a y).2 w' := by
  have HC := Lib.hid (has_any h i)
  have HN := Lib.hid h
  unfold spoilN
  cases hh : hasN N i with
  | false =>
    rw [hh] at HC
    simp only [Bool.false_eq_true, if_false]
    clear h hh
    go_enter Try.func22, Try.ntmps22
    go_wp2_with fail
    refine HC.out.mono ?_
    rintro e w2 ⟨rfl, rfl⟩
    go_wp2_with fail
    go_returns
    exact ⟨rfl, NStep.same HN.out (Below.refl _ _)⟩
  | true =>
    rw [hh] at HC
    simp only [if_true]
    obtain ⟨k, p, rfl, hk, hp⟩ := hasN_spec hh
    rw [Int.toNat_natCast, hp, Option.getD_some]
    obtain ⟨g, rfl⟩ := h.addr (by omega)
    have hr := h.at rfl hp
    have x0 := hr 0 _ rfl
    rw [Nat.add_zero] at x0
    have x1 := hr 1 _ rfl
    have x2 := hr 2 _ rfl
    have x3 := hr 3 _ rfl
    have c2 := h.cel.cell (j := 2) rfl
    obtain ⟨n, hn⟩ : ∃ n, N.fl.length = n := ⟨_, rfl⟩
    rw [hn] at c2 hk
    have hN2 : n ≤ 256 := by rw [← hn]; exact h.len
    have HP := Lib.hid hp
    have HPOK := Lib.hid (h.pks p (List.mem_of_getElem? hp))
    cases hsp : p.spoilt with
    | true =>
      rw [hsp] at x3
      simp only [if_true]
      clear h hh hp hr hn hsp
      go_enter Try.func22, Try.ntmps22
      go_wp2_with fail
      refine HC.out.mono ?_
      rintro e w2 ⟨rfl, rfl⟩
      go_wp2_with fail
      go_returns
      exact ⟨rfl, NStep.same HN.out (Below.refl _ _)⟩
    | false =>
      rw [hsp] at x3
      simp only [Bool.false_eq_true, if_false]
      obtain ⟨sz, hsz⟩ : ∃ sz, p.bytes.size = sz := ⟨_, rfl⟩
      have HSZ := Lib.hid hsz
      have hsz2 : sz ≤ 140737488351232 := by rw [← hsz]; exact HPOK.out.len
      rw [hsz]
      by_cases h1 : a < 0
      · have e1 : decide (a < 0) = true := by simpa using h1
        rw [if_pos (Or.inl h1)]
        clear h hh hp hr hn hsp hsz
        go_enter Try.func22, Try.ntmps22
        go_wp2_with fail
        refine HC.out.mono ?_
        rintro e w2 ⟨rfl, rfl⟩
        go_wp2_with fail
        go_returns
        exact ⟨rfl, NStep.same HN.out (Below.refl _ _)⟩
      · have e1 : decide (a < 0) = false := by simpa using h1
        by_cases h2 : (sz : Int) ≤ a
        · have e2 : decide (a ≥ (p.bytes.size : Int)) = true := by rw [hsz]; simpa using h2
          rw [if_pos (Or.inr (Or.inl h2))]
          clear h hh hp hr hn hsp hsz
          go_enter Try.func22, Try.ntmps22
          go_wp2_with fail
          refine HC.out.mono ?_
          rintro e w2 ⟨rfl, rfl⟩
          go_wp2_with fail
          go_returns
          exact ⟨rfl, NStep.same HN.out (Below.refl _ _)⟩
        · have e2 : decide (a ≥ (p.bytes.size : Int)) = false := by rw [hsz]; simpa using h2
          by_cases h3 : y = 0
          · have e3 : decide (y = 0) = true := by simpa using h3
            rw [if_pos (Or.inr (Or.inr h3))]
            clear h hh hp hr hn hsp hsz
            go_enter Try.func22, Try.ntmps22
            go_wp2_with fail
            refine HC.out.mono ?_
            rintro e w2 ⟨rfl, rfl⟩
            go_wp2_with fail
            go_returns
            exact ⟨rfl, NStep.same HN.out (Below.refl _ _)⟩
          · have e3 : decide (y = 0) = false := by simpa using h3
            rw [if_neg (by omega)]
            obtain ⟨a, rfl⟩ := Int.eq_ofNat_of_zero_le (show 0 ≤ a by omega)
            have ha : a < sz := by omega
            rw [Int.toNat_natCast]
            have e4 : decide (sz ≤ a) = false := by simpa using ha
            have e5 : (y == 0) = false := by simpa using h3
            clear h hh hp hr hn hsp e1 e2 e3
            go_enter Try.func22, Try.ntmps22
            go_wp2_with fail
            refine HC.out.mono ?_
            rintro e w2 ⟨rfl, rfl⟩
            obtain ⟨wc, cap, hcv, hcb, hcc⟩ := bytes_conv (P := Try.prog) w2 9 78 5 p.bytes Try.underlying9 Try.underlying78 Try.underlying5
            rw [hsz] at hcv
            go_upto_region 9 with (fail)
            clear x0 x1 x2 x3 c2 hcv hsz e4 e5 h1 h2
            obtain ⟨B, hB⟩ : ∃ B, w2.heap.size = B := ⟨_, rfl⟩
            rw [hB] at hcb hcc
            rw [hB]
            have hsl : (p.bytes.data.toList.map bv).length = sz := by rw [List.length_map, size_list, HSZ.out]
            have hal : a < p.bytes.data.toList.length := by rw [size_list, HSZ.out]; exact ha
            have l0 := hcc.cell (j := a) (u := .int .u8 (((p.bytes.data.toList.getD a 0).toNat : Nat) : Int)) (by rw [List.getElem?_map, List.getElem?_eq_getElem hal, List.getD_eq_getElem?_getD, List.getElem?_eq_getElem hal]; rfl)
            have f0 := hcc.frozen (j := a) (by rw [hsl]; exact ha)
            obtain ⟨q, hq⟩ : ∃ q, p.bytes.data.toList.getD a 0 = q := ⟨_, rfl⟩
            rw [hq] at l0
            obtain ⟨z, hz⟩ : ∃ z, bits .xor .u8 (q.toNat : Int) y = z := ⟨_, rfl⟩
            have hzr := xor_u8 (q.toNat : Int) y
            rw [hz] at hzr
            have hc4 := hcc.set_ a (.int .u8 z)
            rw [bv_set _ a hzr] at hc4
            have hb4 : Below B w2 (wc.setCell ⟨B, a, none⟩ (.int .u8 z)) := hcb.setCell (Nat.le_refl _) _
            have hcv := string_back (P := Try.prog) (cap := cap) (n := sz) Try.underlying78 Try.underlying5 Try.underlying9 hc4 (by rw [List.length_set, size_list, HSZ.out])
            have hlist : (⟨(p.bytes.data.toList.set a (UInt8.ofNat z.toNat)).toArray⟩ : ByteArray) = spB p.bytes a y := by
              unfold spB
              rw [hq, hz, List.set_eq_take_append_cons_drop, if_pos hal]
            rw [hlist] at hcv
            have hN4 := HN.out.later (by rw [hB]; exact hb4)
            obtain ⟨hstep, hf1, hf2⟩ := hN4.setPk HP.out (spB p.bytes a y) (by rw [spB_size (by rw [HSZ.out]; exact ha), HSZ.out]; omega)
            have y2 := hN4.at rfl HP.out 2 _ rfl
            have y3 := hN4.at rfl HP.out 3 _ rfl
            have HS := Lib.hid hstep
            have HBB := Lib.hid hb4
            have HB := Lib.hid hB
            clear hstep hb4 hB hN4 hlist hzr hcc hcb hsl hal
            go_upto_region 10 with (fail)
            obtain ⟨w4, hw4⟩ : ∃ W, W = wc.setCell ⟨B, a, none⟩ (.int .u8 z) := ⟨_, rfl⟩
            have HZ := Lib.hid hz
            rw [← hw4] at hcv hf1 hf2 HS HBB y2 y3
            rw [← hw4]
            clear hw4 hq hz l0 f0 hc4
            go_wp2_with fail
            go_returns
            exact ⟨rfl, HS.out.before (by rw [HB.out]; exact HBB.out)⟩
end Go.Proofs.Ytfhcfiebhagbeaa.Net
