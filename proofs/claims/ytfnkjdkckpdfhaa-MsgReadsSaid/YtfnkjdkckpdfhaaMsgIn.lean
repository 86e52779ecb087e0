/-
  Layer 10: how the document's answer reads bytes: a number. Conditions: none.
-/
import Derived.Test.YtfnkjdkckpdfhaaWireGet
import Derived.Test.YtfnkjdkckpdfhaaMsgDec
namespace Go.Proofs.Ytfnkjdkckpdfhaa.Msg
set_option maxRecDepth 100000
open Go.RowKit Go.Proofs.Ytfnkjdkckpdfhaa.Mem Go.Proofs.Ytfnkjdkckpdfhaa.Item Go.Proofs.Ytfnkjdkckpdfhaa.Wire

/-- Where bytes are being read. -/
def In (w : World) (i : Nat) (s : ByteArray) (a : Nat) (b : Bool) : Prop := Cells w i 80 [.string s, .int .i64 (a : Int), .bool b]
/-- While a number is read: a block of the thing's own; was it written? -/
structure numSt (k1 v1 : Int) (z1 : ByteArray) (d14 d15 : Bool) (v : Value) (w0 w : World) : Prop where
  low : Below w0.heap.size w0 w
  blk : d14 = true → ∃ j, v = .pointer (some ⟨j, 0, none⟩) ∧ w0.heap.size ≤ j ∧ Cells w j 106 (cond d15 [.int .i64 k1, .int .i64 v1, .string z1] [.int .i64 0, .int .i64 0, .string ⟨#[]⟩])
section
variable {k1 v1 : Int} {z1 : ByteArray} {d14 d15 : Bool} {v : Value} {w0 w w' : World}
theorem numSt.later (h : numSt k1 v1 z1 d14 d15 v w0 w) (hb : Below w.heap.size w w') : numSt k1 v1 z1 d14 d15 v w0 w' :=
  ⟨h.low.trans (hb.mono h.low.size), fun hd => by
    obtain ⟨j, h1, h2, h3⟩ := h.blk hd
    exact ⟨j, h1, h2, h3.later hb⟩⟩
theorem numSt.alloc (h : numSt k1 v1 z1 false false v w0 w) : numSt k1 v1 z1 true false (.pointer (some ⟨w.heap.size, 0, none⟩)) w0 (w.alloc (.cells #[.int .i64 0, .int .i64 0, .string ⟨#[]⟩] 106)) :=
  ⟨h.low.alloc h.low.size _, fun _ => ⟨_, rfl, h.low.size, cells_new w _ _ _ rfl⟩⟩
theorem numSt.store {j : Nat} (h : numSt k1 v1 z1 true false v w0 w) (hv : v = .pointer (some ⟨j, 0, none⟩)) (hj : w0.heap.size ≤ j) :
    numSt k1 v1 z1 true true v w0 (((w.setCell ⟨j, 0, none⟩ (.int .i64 k1)).setCell ⟨j, 1, none⟩ (.int .i64 v1)).setCell ⟨j, 2, none⟩ (.string z1)) := by
  obtain ⟨j', h1, _, h3⟩ := h.blk rfl
  obtain rfl : j = j' := by
    rw [hv] at h1
    simpa using h1
  exact ⟨((h.low.setCell hj _).setCell hj _).setCell hj _, fun _ => ⟨j, hv, hj, ((h3.set_ 0 (.int .i64 k1)).set_ 1 (.int .i64 v1)).set_ 2 (.string z1)⟩⟩
end
/-- Is there a number of a kind? What is it? -/
def okZ (k : Nat) (u : ByteArray) : Bool := !decide (u.size < sz k) && !(decide (k = 1) && decide (1 < head u 1))
def inV (k : Nat) (s : ByteArray) (a : Nat) (b : Bool) : Int := if !b && okZ k (s.extract a s.size) then IntKind.i64.wrap (head (s.extract a s.size) (sz k) : Nat) else 0
def inA (k : Nat) (s : ByteArray) (a : Nat) (b : Bool) : Nat := if !b && okZ k (s.extract a s.size) then a + sz k else a
def inB (k : Nat) (s : ByteArray) (a : Nat) (b : Bool) : Bool := if !b && okZ k (s.extract a s.size) then false else true
theorem getV_ok {k : Nat} {u : ByteArray} (hk : k < 4) (h : okZ k u = true) : getV k u = .tuple #[(⟨k, IntKind.i64.wrap (head u (sz k) : Nat), ⟨#[]⟩⟩ : Th).val, .int .i64 (sz k : Nat)] := by
  unfold okZ at h
  simp only [Bool.and_eq_true, Bool.not_eq_true', decide_eq_false_iff_not, Bool.and_eq_false_iff] at h
  unfold getV getB
  rw [if_neg h.1, if_neg (by rintro ⟨h1, h2⟩; rcases h.2 with h3 | h3; exact h3 h1; exact h3 h2), if_pos hk]
theorem getV_no {k : Nat} {u : ByteArray} (h : okZ k u = false) : getV k u = .tuple #[th0.val, .int .i64 0] := by
  unfold okZ at h
  simp only [Bool.and_eq_false_iff, Bool.not_eq_false', decide_eq_true_eq, Bool.and_eq_true] at h
  unfold getV getB
  by_cases h1 : u.size < sz k
  · rw [if_pos h1]
  · rw [if_neg h1, if_pos (by rcases h with h | h; exact absurd h h1; exact h)]
theorem sz_pos (k : Nat) : 1 ≤ sz k := by unfold sz; split <;> decide
theorem sz_le (k : Nat) : sz k ≤ 8 := by unfold sz; split <;> decide

set_option maxHeartbeats 2000000 in
theorem in_any (k : Nat) (s : ByteArray) (a : Nat) (b : Bool) (ib : Nat) (w : World) (hk : k < 4) (h : In w ib s a b) (ha : a ≤ s.size) (hs : s.size ≤ 1000000) :
    Calls Try.prog 40 #[.pointer (some ⟨ib, 0, none⟩), .int .i64 (k : Int)] w fun e w' => e = .returned (.int .i64 (inV k s a b)) ∧ In w' ib s (inA k s a b) (inB k s a b) ∧ Only (fun j => j = ib) w w' := by
  obtain ⟨u, hu⟩ : ∃ u, s.extract a s.size = u := ⟨_, rfl⟩
  have hus : u.size ≤ s.size := by rw [← hu, ByteArray.size_extract]; omega
  obtain ⟨o, ho⟩ : ∃ o, okZ k u = o := ⟨_, rfl⟩
  obtain ⟨k1, v1, z1, n1, hg⟩ : ∃ k1 v1 z1 n1, getV k u = .tuple #[.agg #[.int .i64 k1, .int .i64 v1, .string z1], .int .i64 n1] ∧ (o = true → v1 = IntKind.i64.wrap (head u (sz k) : Nat) ∧ n1 = (sz k : Nat)) ∧ (o = false → n1 = 0) := by
    cases o
    · exact ⟨0, 0, ⟨#[]⟩, 0, getV_no ho, (fun h => by cases h), fun _ => rfl⟩
    · exact ⟨k, _, ⟨#[]⟩, _, getV_ok hk ho, (fun _ => ⟨rfl, rfl⟩), fun h => by cases h⟩
  have HGT := Lib.hid (fun w' => get_any k u w' (by omega) (by omega))
  rw [hg.1] at HGT
  have HG := Lib.hid hg.2
  have HV : Hid (inV k s a b = (if (!b && o) = true then v1 else 0) ∧ inA k s a b = (if (!b && o) = true then a + sz k else a) ∧ inB k s a b = !(!b && o)) := Lib.hid (by
    unfold inV inA inB
    rw [hu, ho]
    cases o
    · simp
    · cases b <;> simp [hg.2.1 rfl])
  have HSL := Lib.hid hu
  have HAL := Lib.hid (show ¬ ((s.size : Int) < (a : Int)) by omega)
  have HC := Lib.hid (show Cells w ib 80 [.string s, .int .i64 (a : Int), .bool b] from h)
  have HSZ := Lib.hid (sz_le k)
  have HSP := Lib.hid (sz_pos k)
  obtain ⟨rv, hV⟩ : ∃ rv, inV k s a b = rv := ⟨_, rfl⟩
  obtain ⟨ra, hA⟩ : ∃ ra, inA k s a b = ra := ⟨_, rfl⟩
  obtain ⟨rb, hB⟩ : ∃ rb, inB k s a b = rb := ⟨_, rfl⟩
  rw [hV, hA, hB] at HV ⊢
  clear hV hA hB hg hu ho h
  go_enter Try.func40, Try.ntmps40
  go_wp2_with fail
  refine Reg.region_inv (by kernel_rfl) (fun i => ([some (.int .i64 (k : Int)), some (.pointer (some ⟨ib, 0, none⟩)), some (.pointer (some ⟨ib, 0, none⟩)), some (.pointer (some ⟨ib, 0, none⟩)), some (.string s), some (.pointer (some ⟨ib, 0, none⟩)), some (.pointer (some ⟨ib, 0, none⟩)), some (.pointer (some ⟨ib, 1, none⟩)), some (.int .i64 (a : Int)), some (.string u), some (.tuple #[.agg #[.int .i64 k1, .int .i64 v1, .string z1], .int .i64 n1]), some (.tuple #[.agg #[.int .i64 k1, .int .i64 v1, .string z1], .int .i64 n1]), some (.agg #[.int .i64 k1, .int .i64 v1, .string z1]), some (.int .i64 n1), none, none, some (.int .i64 n1)] : List (Option Value)).getD i none) (fun D V W => numSt k1 v1 z1 (D 14) (D 15) (V 14) w W) (fun V => [(some 8, V 0), (some 9, V 1), (some 10, V 2), (some 11, V 3), (some 12, V 4), (some 13, V 5), (some 14, V 6), (some 15, V 7), (some 16, V 8), (some 17, V 9), (some 18, V 10), (some 7, V 11), (some 19, V 12), (some 20, V 13), (some 5, V 14), (none, V 15), (some 6, V 16)]) (by kernel_rfl) (by kernel_rfl) (fun V => rfl) ?_ ?_ ?_
  · intro V
    exact ⟨(Below.refl _ _).drew, fun hd => (by cases hd)⟩
  · intro i o ho
    have hi : i < 17 := (Array.getElem?_eq_some_iff.1 ho).1
    rcases i with _ | _ | _ | _ | _ | _ | _ | _ | _ | _ | _ | _ | _ | _ | _ | _ | _ | i
    · obtain rfl := Option.some.inj ho
      intro D V ρ wi hE hI hDi hT hF hs hd hk
      have e1 : ρ (.tmp 1) = .int .i64 (k : Int) := hs 1 (by kernel_rfl)
      clear hT hF hk
      exact Reg.Gives.value (v := .int .i64 (k : Int)) (w' := wi) (by go_simp) ⟨fun x h => Option.some.inj h, hI⟩
    · obtain rfl := Option.some.inj ho
      intro D V ρ wi hE hI hDi hT hF hs hd hk
      have e0 : ρ (.tmp 0) = .pointer (some ⟨ib, 0, none⟩) := hs 0 (by kernel_rfl)
      clear hT hF hk
      exact Reg.Gives.value (v := .pointer (some ⟨ib, 0, none⟩)) (w' := wi) (by go_simp) ⟨fun x h => Option.some.inj h, hI⟩
    · obtain rfl := Option.some.inj ho
      intro D V ρ wi hE hI hDi hT hF hs hd hk
      have e9 : ρ (.tmp 9) = .pointer (some ⟨ib, 0, none⟩) := (hd 1 9 (by kernel_rfl) (by kernel_rfl) (by show _ < 43; decide)).trans (hk 1 (by kernel_rfl) _ rfl)
      clear hT hF hk
      exact Reg.Gives.value (v := .pointer (some ⟨ib, 0, none⟩)) (w' := wi) (by go_simp) ⟨fun x h => Option.some.inj h, hI⟩
    · obtain rfl := Option.some.inj ho
      intro D V ρ wi hE hI hDi hT hF hs hd hk
      have e10 : ρ (.tmp 10) = .pointer (some ⟨ib, 0, none⟩) := (hd 2 10 (by kernel_rfl) (by kernel_rfl) (by show _ < 43; decide)).trans (hk 2 (by kernel_rfl) _ rfl)
      clear hT hF hk
      exact Reg.Gives.value (v := .pointer (some ⟨ib, 0, none⟩)) (w' := wi) (by go_simp) ⟨fun x h => Option.some.inj h, hI⟩
    · obtain rfl := Option.some.inj ho
      intro D V ρ wi hE hI hDi hT hF hs hd hk
      have e11 : ρ (.tmp 11) = .pointer (some ⟨ib, 0, none⟩) := (hd 3 11 (by kernel_rfl) (by kernel_rfl) (by show _ < 43; decide)).trans (hk 3 (by kernel_rfl) _ rfl)
      clear hT hF hk
      have hx := (HC.out.later hI.low).cell (j := 0) rfl
      exact Reg.Gives.value (v := .string s) (w' := wi) (by go_simp) ⟨fun x h => Option.some.inj h, hI⟩
    · obtain rfl := Option.some.inj ho
      intro D V ρ wi hE hI hDi hT hF hs hd hk
      have e0 : ρ (.tmp 0) = .pointer (some ⟨ib, 0, none⟩) := hs 0 (by kernel_rfl)
      clear hT hF hk
      exact Reg.Gives.value (v := .pointer (some ⟨ib, 0, none⟩)) (w' := wi) (by go_simp) ⟨fun x h => Option.some.inj h, hI⟩
    · obtain rfl := Option.some.inj ho
      intro D V ρ wi hE hI hDi hT hF hs hd hk
      have e13 : ρ (.tmp 13) = .pointer (some ⟨ib, 0, none⟩) := (hd 5 13 (by kernel_rfl) (by kernel_rfl) (by show _ < 43; decide)).trans (hk 5 (by kernel_rfl) _ rfl)
      clear hT hF hk
      exact Reg.Gives.value (v := .pointer (some ⟨ib, 0, none⟩)) (w' := wi) (by go_simp) ⟨fun x h => Option.some.inj h, hI⟩
    · obtain rfl := Option.some.inj ho
      intro D V ρ wi hE hI hDi hT hF hs hd hk
      have e14 : ρ (.tmp 14) = .pointer (some ⟨ib, 0, none⟩) := (hd 6 14 (by kernel_rfl) (by kernel_rfl) (by show _ < 43; decide)).trans (hk 6 (by kernel_rfl) _ rfl)
      clear hT hF hk
      exact Reg.Gives.value (v := .pointer (some ⟨ib, 1, none⟩)) (w' := wi) (by go_simp) ⟨fun x h => Option.some.inj h, hI⟩
    · obtain rfl := Option.some.inj ho
      intro D V ρ wi hE hI hDi hT hF hs hd hk
      have e15 : ρ (.tmp 15) = .pointer (some ⟨ib, 1, none⟩) := (hd 7 15 (by kernel_rfl) (by kernel_rfl) (by show _ < 43; decide)).trans (hk 7 (by kernel_rfl) _ rfl)
      clear hT hF hk
      have hx := (HC.out.later hI.low).cell (j := 1) rfl
      exact Reg.Gives.value (v := .int .i64 (a : Int)) (w' := wi) (by go_simp) ⟨fun x h => Option.some.inj h, hI⟩
    · obtain rfl := Option.some.inj ho
      intro D V ρ wi hE hI hDi hT hF hs hd hk
      have e12 : ρ (.tmp 12) = .string s := (hd 4 12 (by kernel_rfl) (by kernel_rfl) (by show _ < 43; decide)).trans (hk 4 (by kernel_rfl) _ rfl)
      have e16 : ρ (.tmp 16) = .int .i64 (a : Int) := (hd 8 16 (by kernel_rfl) (by kernel_rfl) (by show _ < 43; decide)).trans (hk 8 (by kernel_rfl) _ rfl)
      clear hT hF hk
      have hx := HSL.out
      have ha := HAL.out
      exact Reg.Gives.value (v := .string u) (w' := wi) (by go_simp) ⟨fun x h => Option.some.inj h, hI⟩
    · obtain rfl := Option.some.inj ho
      intro D V ρ wi hE hI hDi hT hF hs hd hk
      have e8 : ρ (.tmp 8) = .int .i64 (k : Int) := (hd 0 8 (by kernel_rfl) (by kernel_rfl) (by show _ < 43; decide)).trans (hk 0 (by kernel_rfl) _ rfl)
      have e17 : ρ (.tmp 17) = .string u := (hd 9 17 (by kernel_rfl) (by kernel_rfl) (by show _ < 43; decide)).trans (hk 9 (by kernel_rfl) _ rfl)
      have hf := hE.func
      have hD15 : D 15 = false := hF 1 15 (by show _ < 17; decide) (by kernel_rfl)
      clear hT hF
      refine Reg.Gives.call (f := 60) (args := #[.int .i64 (k : Int), .string u]) (w' := wi) (by go_simp) ?_
      refine (HGT.out wi).mono ?_
      rintro e w'' ⟨rfl, hbb⟩
      refine ⟨_, rfl, fun x h => Option.some.inj h, ?_⟩
      show numSt k1 v1 z1 (D 14) (D 15) (V 14) w w''
      exact hI.later hbb
    · obtain rfl := Option.some.inj ho
      intro D V ρ wi hE hI hDi hT hF hs hd hk
      have e18 : ρ (.tmp 18) = .tuple #[.agg #[.int .i64 k1, .int .i64 v1, .string z1], .int .i64 n1] := (hd 10 18 (by kernel_rfl) (by kernel_rfl) (by show _ < 43; decide)).trans (hk 10 (by kernel_rfl) _ rfl)
      clear hT hF hk
      exact Reg.Gives.value (v := .tuple #[.agg #[.int .i64 k1, .int .i64 v1, .string z1], .int .i64 n1]) (w' := wi) (by go_simp) ⟨fun x h => Option.some.inj h, hI⟩
    · obtain rfl := Option.some.inj ho
      intro D V ρ wi hE hI hDi hT hF hs hd hk
      have e7 : ρ (.tmp 7) = .tuple #[.agg #[.int .i64 k1, .int .i64 v1, .string z1], .int .i64 n1] := (hd 11 7 (by kernel_rfl) (by kernel_rfl) (by show _ < 43; decide)).trans (hk 11 (by kernel_rfl) _ rfl)
      clear hT hF hk
      exact Reg.Gives.value (v := .agg #[.int .i64 k1, .int .i64 v1, .string z1]) (w' := wi) (by go_simp) ⟨fun x h => Option.some.inj h, hI⟩
    · obtain rfl := Option.some.inj ho
      intro D V ρ wi hE hI hDi hT hF hs hd hk
      have e7 : ρ (.tmp 7) = .tuple #[.agg #[.int .i64 k1, .int .i64 v1, .string z1], .int .i64 n1] := (hd 11 7 (by kernel_rfl) (by kernel_rfl) (by show _ < 43; decide)).trans (hk 11 (by kernel_rfl) _ rfl)
      clear hT hF hk
      exact Reg.Gives.value (v := .int .i64 n1) (w' := wi) (by go_simp) ⟨fun x h => Option.some.inj h, hI⟩
    · obtain rfl := Option.some.inj ho
      intro D V ρ wi hE hI hDi hT hF hs hd hk
      have hD14 : D 14 = false := hDi
      have hD15 : D 15 = false := hF 1 15 (by show _ < 17; decide) (by kernel_rfl)
      clear hT hF
      rw [hD14, hD15] at hI
      exact Reg.Gives.value (v := .pointer (some ⟨wi.heap.size, 0, none⟩)) (w' := wi.alloc (.cells #[.int .i64 0, .int .i64 0, .string ⟨#[]⟩] 106)) (by go_simp) ⟨fun x h => (by cases h), by show numSt k1 v1 z1 true (D 15) (.pointer (some ⟨wi.heap.size, 0, none⟩)) w _; rw [hD15]; exact hI.alloc⟩
    · obtain rfl := Option.some.inj ho
      intro D V ρ wi hE hI hDi hT hF hs hd hk
      have e5 : ρ (.tmp 5) = V 14 := hd 14 5 (by kernel_rfl) (by kernel_rfl) (by show _ < 43; decide)
      have e19 : ρ (.tmp 19) = .agg #[.int .i64 k1, .int .i64 v1, .string z1] := (hd 12 19 (by kernel_rfl) (by kernel_rfl) (by show _ < 43; decide)).trans (hk 12 (by kernel_rfl) _ rfl)
      have hD14 : D 14 = true := hT 1 14 (by kernel_rfl)
      have hD15 : D 15 = false := hDi
      clear hT hF
      rw [hD14, hD15] at hI
      obtain ⟨j, hv, hj0, hcj⟩ := hI.blk rfl
      rw [hv] at e5
      have hcj : Cells wi j 106 [.int .i64 0, .int .i64 0, .string ⟨#[]⟩] := hcj
      have x0 := hcj.cell (j := 0) rfl
      have x1 := hcj.cell (j := 1) rfl
      have x2 := hcj.cell (j := 2) rfl
      have f0 := hcj.frozen (j := 0) (by simp)
      have f1 := hcj.frozen (j := 1) (by simp)
      have f2 := hcj.frozen (j := 2) (by simp)
      exact Reg.Gives.skip (w' := ((wi.setCell ⟨j, 0, none⟩ (.int .i64 k1)).setCell ⟨j, 1, none⟩ (.int .i64 v1)).setCell ⟨j, 2, none⟩ (.string z1)) (by go_simp) ⟨fun x h => (by cases h), by show numSt k1 v1 z1 (D 14) true (V 14) w _; rw [hD14]; exact hI.store hv hj0⟩
    · obtain rfl := Option.some.inj ho
      intro D V ρ wi hE hI hDi hT hF hs hd hk
      have e20 : ρ (.tmp 20) = .int .i64 n1 := (hd 13 20 (by kernel_rfl) (by kernel_rfl) (by show _ < 43; decide)).trans (hk 13 (by kernel_rfl) _ rfl)
      clear hT hF hk
      exact Reg.Gives.value (v := .int .i64 n1) (w' := wi) (by go_simp) ⟨fun x h => Option.some.inj h, hI⟩
    · omega
  · intro V w1 hk hI
    have hV16 : V 16 = .int .i64 n1 := hk 16 (by show _ < 17; decide) _ rfl
    simp only [Reg.putsO, List.foldl_cons, List.foldl_nil, Act.put, List.setIfInBounds_toArray, List.set_cons_succ, List.set_cons_zero, hV16]
    replace hI : numSt k1 v1 z1 true true (V 14) w w1 := hI
    clear hk hV16
    obtain ⟨j, hv14, hj0, hcj⟩ := hI.blk rfl
    have HLOW := Lib.hid hI.low
    have HCJ := Lib.hid (show Cells w1 j 106 [.int .i64 k1, .int .i64 v1, .string z1] from hcj)
    have HCI := Lib.hid (HC.out.later hI.low)
    rw [hv14]
    have hib : ib < w.heap.size := HC.out.lt
    have hne : j ≠ ib := by omega
    have ci1 := HCI.out.cell (j := 1) rfl
    have ci2 := HCI.out.cell (j := 2) rfl
    have fi1 := HCI.out.frozen (j := 1) (by simp)
    have fi2 := HCI.out.frozen (j := 2) (by simp)
    have HF : Hid (∀ q u, Only (fun j => j = ib) w (w1.setCell ⟨ib, q, none⟩ u)) := Lib.hid (fun q u => (Only.of_below HLOW.out).trans (Only.of_set w1 ⟨ib, q, none⟩ u) fun k _ e => e)
    clear hcj hI hv14
    have last : ∀ (_ : b = true ∨ n1 = 0), rv = 0 ∧ ra = a ∧ rb = true := by
      intro hbo
      have hf : (!b && o) = false := by
        rcases hbo with rfl | hn
        · rfl
        · cases o
          · simp
          · have := (HG.out.1 rfl).2
            have := HSP.out
            omega
      rw [HV.out.1, HV.out.2.1, HV.out.2.2, hf]
      exact ⟨rfl, rfl, rfl⟩
    have HLA := Lib.hid last
    clear last
    cases b
    · cases o
      · have hn : n1 = 0 := HG.out.2 rfl
        subst hn
        have HR := Lib.hid (HLA.out (Or.inr rfl))
        go_wp2_with fail
        go_returns
        refine ⟨by rw [HR.out.1]; rfl, ?_, HF.out _ _⟩
        rw [HR.out.2.1, HR.out.2.2]
        exact HCI.out.set_ 2 (.bool true)
      · obtain ⟨hv, hn⟩ := HG.out.1 rfl
        obtain ⟨z, hz⟩ : ∃ z, sz k = z := ⟨_, rfl⟩
        have HR : Hid (rv = v1 ∧ ra = a + z ∧ rb = false) := Lib.hid ⟨HV.out.1, by rw [HV.out.2.1, hz]; rfl, HV.out.2.2⟩
        have hz8 : z ≤ 8 := by rw [← hz]; exact HSZ.out
        have hz1 : 1 ≤ z := by rw [← hz]; exact HSP.out
        rw [hz] at hn
        subst hn
        have hzb : ((z : Int) == 0) = false := beq_false_of_ne (by omega)
        have cjx : ∀ u, (w1.setCell ⟨ib, 1, none⟩ u).cell? ⟨j, 1, none⟩ = some (.int .i64 v1) := fun u => (HCJ.out.far hne u).cell (j := 1) rfl
        have HAZ := Lib.hid (show ((a : Int) + (z : Int)) = ((a + z : Nat) : Int) by omega)
        clear hv hz
        go_wp2_with fail
        go_returns
        refine ⟨by rw [HR.out.1]; rfl, ?_, HF.out _ _⟩
        rw [HR.out.2.1, HR.out.2.2]
        rw [HAZ.out]
        exact HCI.out.set_ 1 (.int .i64 ((a + z : Nat) : Int))
    · have HR := Lib.hid (HLA.out (Or.inl rfl))
      go_wp2_with fail
      go_returns
      refine ⟨by rw [HR.out.1]; rfl, ?_, HF.out _ _⟩
      rw [HR.out.2.1, HR.out.2.2]
      exact HCI.out.set_ 2 (.bool true)
end Go.Proofs.Ytfnkjdkckpdfhaa.Msg
