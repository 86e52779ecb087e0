/-
  Layer 6: items and nodes as bytes: what a writer has when they are put. Conditions: none.
-/
import Derived.Test.YtfnkjdkckpdfhaaItemPut
namespace Go.Proofs.Ytfnkjdkckpdfhaa.Item
open Go.RowKit Go.Proofs.Ytfnkjdkckpdfhaa.Mem Go.Proofs.Ytfnkjdkckpdfhaa.Wire

/-- A list that came in stands apart from a writer's blocks. -/
def Off (A : Option Addr) (g : Nat) (r : Option Nat) : Prop := ∀ b off, A = some ⟨b, off, none⟩ → b ≠ g ∧ r ≠ some b
theorem Nums.low {w : World} {A : Option Addr} {l : List Int} (h : Nums w A l) (h0 : 0 < l.length) : ∀ b off, A = some ⟨b, off, none⟩ → b < w.heap.size := by
  intro b off e
  obtain ⟨b', off', e', hc⟩ := h 0 h0
  rw [e] at e'
  have := block_of_cell hc
  simp at e'
  rw [e'.1]
  exact this
theorem u64_nat (n : Nat) (h : n < 18446744073709551616) : u64 (n : Int) = n := by unfold u64; omega
theorem count_st (st : Option (List UInt8)) (n : Nat) (h : n ≤ 65535) : countSt st (n : Int) = st.map (· ++ big n 2) := by
  unfold countSt
  rw [if_neg (by omega), u64_nat n (by omega)]

set_option maxHeartbeats 400000 in
theorem nums_gen (w : World) (base g : Nat) (r : Option Nat) (st : Option (List UInt8)) (ns : List Int) (A : Option Addr) (c : Nat) (h : Wr w base g r st) (hl : (st.getD []).length ≤ 1000000000 - 8 * ns.length) (hn : ns.length ≤ 1000)
    (hc : Nums w A ns) (ho : 0 < ns.length → Off A g r) :
    Calls Try.prog 46 #[.pointer (some ⟨g, 0, none⟩), .slice A ns.length c] w fun e w' => e = .returned (.tuple #[]) ∧ ∃ r', Wr w' base g r' (st.map (· ++ nums ns)) ∧ Turn w w' g r r' := by
  have HW := Lib.hid h
  have HCC := Lib.hid hc
  clear h hc
  go_enter Try.func46, Try.ntmps46
  go_wp2
  go_loopw [8] (fun i wr => ∃ k r', k ≤ ns.length ∧ i = .int .i64 (k : Int) ∧ Wr wr base g r' (st.map (· ++ nums (ns.take k))) ∧ Turn w wr g r r') (fun i _ => ns.length - (intOf i).toNat)
  case atStart =>
    refine ⟨0, r, Nat.zero_le _, rfl, ?_, Turn.refl _ _ _⟩
    rw [List.take_zero]
    have e : st.map (· ++ nums []) = st := by cases st <;> simp [nums]
    rw [e]
    exact HW.out
  case round =>
    obtain ⟨k, r', hk, rfl, hw1, ht1⟩ := hrel
    have HW1 := Lib.hid hw1
    have HT1 := Lib.hid ht1
    clear hw1 ht1
    by_cases hlt : k < ns.length
    · obtain ⟨gb, off, rfl, h1⟩ := HCC.out k hlt
      have hcell : wr.cell? ⟨gb, off + k, none⟩ = some (.int .i64 ns[k]) := by
        refine Eq.trans (World.cell?_of_block (w := w) (HT1.out.1.block gb (block_of_cell h1) ?_)) h1
        rintro (e | e)
        · exact (ho (by omega) _ _ rfl).1 e
        · exact (ho (by omega) _ _ rfl).2 e.symm
      have HS := Lib.hid (nums_take ns k hlt)
      have HU := Lib.hid (u64_cast ns[k])
      clear h1
      generalize ns[k] = n at *
      have hlen : ((st.map (· ++ nums (ns.take k))).getD []).length ≤ 1000000000 := by
        cases st with
        | none => simp
        | some l => simp only [Option.map_some, Option.getD_some, List.length_append, nums_length, List.length_take] at hl ⊢; omega
      have HLE := Lib.hid hlen
      clear hlen
      go_wp2_with fail
      rw [IntKind.wrap_u64, ← HU.out]
      refine (number_any (u64 n) 8 _ base g r' _ HW1.out (by omega) HLE.out).mono ?_
      rintro e w2 ⟨rfl, r2, hw2, ht2⟩
      have HW2 := Lib.hid hw2
      have HT2 := Lib.hid (HT1.out.trans ht2)
      clear hw2 ht2
      go_wp2
      go_roundw
      case rel =>
        refine ⟨k + 1, r2, by omega, by go_num, ?_, HT2.out⟩
        rw [HS.out]
        have h2 := HW2.out
        rw [Option.map_map] at h2
        simpa [Function.comp_def] using h2
      case measure => simp [intOf]; omega
    · have e : ns.take k = ns := List.take_of_length_le (by omega)
      have hw1 := HW1.out
      rw [e] at hw1
      go_wp2
      go_returns
      exact ⟨rfl, r', hw1, HT1.out⟩
theorem wNodes_any (w : World) (base g : Nat) (r : Option Nat) (st : Option (List UInt8)) (ns : List Int) (A : Option Addr) (c : Nat) (h : Wr w base g r st) (hl : (st.getD []).length ≤ 900000000) (hn : ns.length ≤ 1000) (hc : Nums w A ns) (ho : 0 < ns.length → Off A g r) :
    Calls Try.prog 44 #[.pointer (some ⟨g, 0, none⟩), .slice A ns.length c] w fun e w' => e = .returned (.tuple #[]) ∧ ∃ r', Wr w' base g r' (st.map (· ++ nodesB ns)) ∧ Turn w w' g r r' := by
  have HW := Lib.hid h
  have HC := Lib.hid hc
  have HL := Lib.hid hl
  clear h hc hl
  go_enter Try.func44, Try.ntmps44
  go_wp2_with fail
  refine (count_any w base g r st (ns.length : Int) HW.out (by have := HL.out; omega)).mono ?_
  rintro e w2 ⟨rfl, r2, hw2, ht2⟩
  rw [count_st st ns.length (by omega)] at hw2
  have HW2 := Lib.hid hw2
  have HT2 := Lib.hid ht2
  have HC2 : Hid (Nums w2 A ns) := Lib.hid fun k hk => by
    obtain ⟨gb, off, rfl, h1⟩ := HC.out k hk
    refine ⟨gb, off, rfl, Eq.trans (World.cell?_of_block (w := w) (ht2.1.block gb (block_of_cell h1) ?_)) h1⟩
    rintro (e | e)
    · exact (ho (by omega) _ _ rfl).1 e
    · exact (ho (by omega) _ _ rfl).2 e.symm
  have HO2 : Hid (0 < ns.length → Off A g r2) := Lib.hid fun h0 b off e => by
    refine ⟨(ho h0 b off e).1, fun e2 => ?_⟩
    rcases ht2.2 b e2 with h3 | h3
    · exact (ho h0 b off e).2 h3.symm
    · have := HC.out.low h0 b off e
      omega
  have HLE : Hid (((st.map (· ++ big ns.length 2)).getD []).length ≤ 1000000000 - 8 * ns.length) := Lib.hid (by
    have := HL.out
    cases st with
    | none => simp
    | some l => simp only [Option.map_some, Option.getD_some, List.length_append, big_length] at this ⊢; omega)
  have HFIN : Hid ((st.map (· ++ big ns.length 2)).map (· ++ nums ns) = st.map (· ++ nodesB ns)) := Lib.hid (by
    rw [Option.map_map]
    unfold nodesB
    simp [Function.comp_def])
  clear hw2 ht2
  go_wp2_with fail
  refine (nums_gen w2 base g r2 _ ns A c HW2.out HLE.out hn HC2.out HO2.out).mono ?_
  rintro e w3 ⟨rfl, r3, hw3, ht3⟩
  rw [HFIN.out] at hw3
  have HW3 := Lib.hid hw3
  have HT3 := Lib.hid (HT2.out.trans ht3)
  clear hw3 ht3
  go_wp2_with fail
  go_returns
  exact ⟨rfl, r3, HW3.out, HT3.out⟩
def wItA (a b c : Int) (g k0 s : Nat) : Nat → Value → World → Prop
  | 0, v, _ => v = .pointer (some ⟨g, 0, none⟩)
  | 1, v, _ => v = .pointer (some ⟨g, 0, none⟩)
  | 2, v, _ => v = .pointer (some ⟨g, 0, none⟩)
  | 3, v, _ => v = .pointer (some ⟨s, 0, none⟩)
  | 4, v, _ => v = .int .i64 a
  | 5, v, _ => v = .pointer (some ⟨s, 1, none⟩)
  | 6, v, _ => v = .int .i64 b
  | 7, v, _ => v = .pointer (some ⟨s, 2, none⟩)
  | 8, v, _ => v = .int .i64 c
  | 9, v, w => ∃ k, v = .slice (some ⟨k, 0, none⟩) 3 3 ∧ Cells w k 3 ([a, b, c].map (Value.int .i64)) ∧ k0 ≤ k
  | 10, v, _ => v = .tuple #[]
  | _, _, _ => True
theorem wItA_later {a b c : Int} {g k0 s : Nat} {j : Nat} {v : Value} {w w' : World} (hb : Below w.heap.size w w') (h : wItA a b c g k0 s j v w) : wItA a b c g k0 s j v w' := by
  match j, h with
  | 0, h | 1, h | 2, h | 3, h | 4, h | 5, h | 6, h | 7, h | 8, h | 10, h => exact h
  | 9, h =>
    obtain ⟨k, h1, h2, h3⟩ := h
    exact ⟨k, h1, h2.later hb, h3⟩
  | _ + 11, _ => exact trivial
theorem wItA_keep {a b c : Int} {g k0 s : Nat} {j : Nat} {v : Value} {w w' : World} (h9 : j ≠ 9) (h : wItA a b c g k0 s j v w) : wItA a b c g k0 s j v w' := by
  match j, h with
  | 0, h | 1, h | 2, h | 3, h | 4, h | 5, h | 6, h | 7, h | 8, h | 10, h => exact h
  | 9, _ => exact absurd rfl h9
  | _ + 11, _ => exact trivial
def wItB (t : Bool) (g s : Nat) : Nat → Value → World → Prop
  | 0, v, _ => v = .pointer (some ⟨g, 0, none⟩)
  | 1, v, _ => v = .pointer (some ⟨g, 0, none⟩)
  | 2, v, _ => v = .pointer (some ⟨g, 0, none⟩)
  | 3, v, _ => v = .pointer (some ⟨s, 3, none⟩)
  | 4, v, _ => v = .bool t
  | 5, v, _ => v = .tuple #[]
  | _, _, _ => True
theorem wItB_later {t : Bool} {g s : Nat} {j : Nat} {v : Value} {w w' : World} (_hb : Below w.heap.size w w') (h : wItB t g s j v w) : wItB t g s j v w' := by
  match j, h with
  | 0, h | 1, h | 2, h | 3, h | 4, h | 5, h => exact h
  | _ + 6, _ => exact trivial
theorem wItB_keep {t : Bool} {g s : Nat} {j : Nat} {v : Value} {w w' : World}  (h : wItB t g s j v w) : wItB t g s j v w' := by
  match j, h with
  | 0, h | 1, h | 2, h | 3, h | 4, h | 5, h => exact h
  | _ + 6, _ => exact trivial
def wItC (n : Int) (g k0 s : Nat) : Nat → Value → World → Prop
  | 0, v, _ => v = .pointer (some ⟨g, 0, none⟩)
  | 1, v, _ => v = .pointer (some ⟨g, 0, none⟩)
  | 2, v, _ => v = .pointer (some ⟨g, 0, none⟩)
  | 3, v, _ => v = .pointer (some ⟨s, 4, none⟩)
  | 4, v, _ => v = .int .i64 n
  | 5, v, w => ∃ k, v = .slice (some ⟨k, 0, none⟩) 1 1 ∧ Cells w k 3 ([n].map (Value.int .i64)) ∧ k0 ≤ k
  | 6, v, _ => v = .tuple #[]
  | _, _, _ => True
theorem wItC_later {n : Int} {g k0 s : Nat} {j : Nat} {v : Value} {w w' : World} (hb : Below w.heap.size w w') (h : wItC n g k0 s j v w) : wItC n g k0 s j v w' := by
  match j, h with
  | 0, h | 1, h | 2, h | 3, h | 4, h | 6, h => exact h
  | 5, h =>
    obtain ⟨k, h1, h2, h3⟩ := h
    exact ⟨k, h1, h2.later hb, h3⟩
  | _ + 7, _ => exact trivial
theorem wItC_keep {n : Int} {g k0 s : Nat} {j : Nat} {v : Value} {w w' : World} (h5 : j ≠ 5) (h : wItC n g k0 s j v w) : wItC n g k0 s j v w' := by
  match j, h with
  | 0, h | 1, h | 2, h | 3, h | 4, h | 6, h => exact h
  | 5, _ => exact absurd rfl h5
  | _ + 7, _ => exact trivial
theorem itB_app (st : Option (List UInt8)) (x : It) : ((st.map (· ++ nums [x.cell, x.version, x.value])).map (· ++ [if x.write then 1 else 0])).map (· ++ nums [x.new]) = st.map (· ++ itB x) := by
  cases st with
  | none => rfl
  | some l => simp [itB]
theorem flat_take (l : List It) (k : Nat) (h : k < l.length) : (l.take (k + 1)).flatMap itB = (l.take k).flatMap itB ++ itB l[k] := by
  rw [List.take_succ_eq_append_getElem h, List.flatMap_append]
  simp
theorem flat_length (l : List It) : (l.flatMap itB).length = 33 * l.length := by
  induction l with
  | nil => rfl
  | cons x l ih => rw [List.flatMap_cons, List.length_append, itB_length, ih, List.length_cons]; omega
theorem size_map (st : Option (List UInt8)) (l : List UInt8) (n m : Nat) (h : (st.getD []).length ≤ n) (hl : n + l.length ≤ m) : ((st.map (· ++ l)).getD []).length ≤ m := by
  cases st with
  | none => simp
  | some x => simp only [Option.map_some, Option.getD_some, List.length_append] at h ⊢; omega
set_option maxHeartbeats 1000000 in
theorem wItems_any (w : World) (base g : Nat) (r : Option Nat) (st : Option (List UInt8)) (l : List It) (A : Option Addr) (cap : Nat) (h : Wr w base g r st) (hl : (st.getD []).length ≤ 900000000) (hn : l.length ≤ 1000) (hc : Items w A l) (ho : 0 < l.length → Off A g r) :
    Calls Try.prog 43 #[.pointer (some ⟨g, 0, none⟩), .slice A l.length cap] w fun e w' => e = .returned (.tuple #[]) ∧ ∃ r', Wr w' base g r' (st.map (· ++ itemsB l)) ∧ Turn w w' g r r' := by
  have HW := Lib.hid h
  have HC := Lib.hid hc
  have HL := Lib.hid hl
  clear h hc hl
  go_enter Try.func43, Try.ntmps43
  go_wp2_with fail
  refine (count_any w base g r st (l.length : Int) HW.out (by have := HL.out; omega)).mono ?_
  rintro e w2 ⟨rfl, r2, hw2, ht2⟩
  rw [count_st st l.length (by omega)] at hw2
  obtain ⟨st1, hst1⟩ : ∃ st1, st1 = st.map (· ++ big l.length 2) := ⟨_, rfl⟩
  have HFIN : Hid (st1.map (· ++ l.flatMap itB) = st.map (· ++ itemsB l)) := Lib.hid (by
    rw [hst1, Option.map_map]
    unfold itemsB
    simp [Function.comp_def])
  have HS1 : Hid ((st1.getD []).length ≤ 900000002) := Lib.hid (by rw [hst1]; exact size_map st _ _ _ HL.out (by rw [big_length]; decide))
  rw [← hst1] at hw2
  have HW2 := Lib.hid hw2
  have HT2 := Lib.hid ht2
  clear hw2 ht2 hst1
  go_wp2_with fail
  go_loopw [5, 14] (fun _ i wr => ∃ k r', k ≤ l.length ∧ i = .int .i64 (k : Int) ∧ Wr wr base g r' (st1.map (· ++ (l.take k).flatMap itB)) ∧ Turn w wr g r r') (fun _ i _ => l.length - (intOf i).toNat)
  case atStart =>
    refine ⟨0, r2, Nat.zero_le _, rfl, ?_, HT2.out⟩
    have e : st1.map (· ++ ([] : List UInt8)) = st1 := by cases st1 <;> simp
    rw [List.take_zero, List.flatMap_nil, e]
    exact HW2.out
  case round =>
    obtain ⟨k, r', hk, rfl, hw1, ht1⟩ := hrel
    have HT1 := Lib.hid ht1
    by_cases hlt : k < l.length
    · obtain ⟨b0, off, rfl, hi⟩ := HC.out k hlt
      have hi1 : ItAt wr b0 (off + k * 5) l[k] := hi.only ht1.1 (by
        rintro (e | e)
        · exact (ho (by omega) _ _ rfl).1 e
        · exact (ho (by omega) _ _ rfl).2 e.symm)
      have hx0 := hi1.cell
      have hx1 := hi1.version
      have hx2 := hi1.value
      have hx3 := hi1.write
      have hx4 := hi1.new
      have HS := Lib.hid (flat_take l k hlt)
      have HSZ0 : Hid (((st1.map (· ++ (l.take k).flatMap itB)).getD []).length ≤ 990000000) := Lib.hid (size_map st1 _ _ _ HS1.out (by rw [flat_length, List.length_take]; omega))
      generalize l[k] = x at *
      obtain ⟨st2, hst2⟩ : ∃ st2, st2 = st1.map (· ++ (l.take k).flatMap itB) := ⟨_, rfl⟩
      rw [← hst2] at hw1 HSZ0
      have HAPP : Hid ((((st2.map (· ++ nums [x.cell, x.version, x.value])).map (· ++ [if x.write then 1 else 0])).map (· ++ nums [x.new])) = st1.map (· ++ (l.take (k + 1)).flatMap itB)) := Lib.hid (by
        rw [itB_app, hst2, HS.out, Option.map_map]
        simp [Function.comp_def])
      obtain ⟨a, b, c, t, n⟩ := x
      simp only at hx0 hx1 hx2 hx3 hx4 HAPP
      obtain ⟨wn, hwn⟩ : ∃ wn, wn = wr.alloc (.cells #[.int .i64 a, .int .i64 b, .int .i64 c, .bool t, .int .i64 n] 83) := ⟨_, rfl⟩
      have hbn := below_alloc wr (.cells #[.int .i64 a, .int .i64 b, .int .i64 c, .bool t, .int .i64 n] 83)
      have hcn := cells_new wr 83 [.int .i64 a, .int .i64 b, .int .i64 c, .bool t, .int .i64 n] #[.int .i64 a, .int .i64 b, .int .i64 c, .bool t, .int .i64 n] rfl
      rw [← hwn] at hbn hcn
      have HX : Hid (∀ wi, Below wn.heap.size wn wi → ∀ j u, [Value.int .i64 a, .int .i64 b, .int .i64 c, .bool t, .int .i64 n][j]? = some u → wi.cell? ⟨wr.heap.size, j, none⟩ = some u) := Lib.hid fun wi hb j u hu => (hcn.later hb).cell hu
      have HWN := Lib.hid (hw1.later hbn)
      have HLT := Lib.hid HWN.out.lt
      have HGR : Hid (g < wr.heap.size ∧ ∀ k, r' = some k → k < wr.heap.size) := Lib.hid hw1.lt
      have HSZ : Hid ((st2.getD []).length ≤ 990000000) := HSZ0
      have HTN := Lib.hid (ht1.after hbn)
      have HCN := Lib.hid hcn
      have HSZA : Hid (((st2.map (· ++ nums [a, b, c])).getD []).length ≤ 1000000000) := Lib.hid (size_map st2 _ _ _ HSZ0.out (by rw [nums_length]; simp))
      have HSZB : Hid ((((st2.map (· ++ nums [a, b, c])).map (· ++ [if t then 1 else 0])).getD []).length ≤ 1000000000 - 8 * [n].length) := Lib.hid (size_map _ _ _ _ (size_map st2 _ _ 990000024 HSZ0.out (by rw [nums_length]; simp)) (by simp))
      clear hw1 ht1 hbn hcn hi hi1 HSZ0 hst2
      go_wp2_with fail
      rw [← hwn]
      clear hwn hx0 hx1 hx2 hx3 hx4
      refine Reg.region_heavy (by kernel_rfl) 10 [] (wItA a b c g wn.heap.size wr.heap.size) (fun a => Below wn.heap.size wn a) (fun a' => ∃ r2, Wr a' base g r2 (st2.map (· ++ nums [a, b, c])) ∧ Turn wn a' g r' r2) (fun V => [(some 18, V 0), (some 19, V 1), (some 20, V 2), (some 21, V 3), (some 22, V 4), (some 23, V 5), (some 24, V 6), (some 25, V 7), (some 26, V 8), (some 27, V 9), (some 28, V 10)]) (by kernel_rfl) (by kernel_rfl) (by kernel_rfl) (fun V => rfl) ?_ ?_ ?_
      · exact (Below.refl _ _).drew
      · intro i o ho
        have hi : i < 11 := (Array.getElem?_eq_some_iff.1 ho).1
        rcases i with _ | _ | _ | _ | _ | _ | _ | _ | _ | _ | _ | i
        · obtain rfl := Option.some.inj ho
          intro ρ wi hE hI hs hd
          try dsimp only at hI
          have e0 : ρ (.tmp 0) = .pointer (some ⟨g, 0, none⟩) := hs 0 (by kernel_rfl)
          exact Reg.Gives.value (v := .pointer (some ⟨g, 0, none⟩)) (w' := wi) (by go_simp) (Reg.OwedH.same hI rfl)
        · obtain rfl := Option.some.inj ho
          intro ρ wi hE hI hs hd
          try dsimp only at hI
          obtain ⟨u18, g18, e18⟩ := hd 0 18 (by kernel_rfl) (by kernel_rfl) (by show _ < 43; decide)
          obtain rfl : u18 = .pointer (some ⟨g, 0, none⟩) := g18
          exact Reg.Gives.value (v := .pointer (some ⟨g, 0, none⟩)) (w' := wi) (by go_simp) (Reg.OwedH.same hI rfl)
        · obtain rfl := Option.some.inj ho
          intro ρ wi hE hI hs hd
          try dsimp only at hI
          obtain ⟨u19, g19, e19⟩ := hd 1 19 (by kernel_rfl) (by kernel_rfl) (by show _ < 43; decide)
          obtain rfl : u19 = .pointer (some ⟨g, 0, none⟩) := g19
          exact Reg.Gives.value (v := .pointer (some ⟨g, 0, none⟩)) (w' := wi) (by go_simp) (Reg.OwedH.same hI rfl)
        · obtain rfl := Option.some.inj ho
          intro ρ wi hE hI hs hd
          try dsimp only at hI
          have e5 : ρ (.tmp 5) = .pointer (some ⟨wr.heap.size, 0, none⟩) := hs 5 (by kernel_rfl)
          exact Reg.Gives.value (v := .pointer (some ⟨wr.heap.size, 0, none⟩)) (w' := wi) (by go_simp) (Reg.OwedH.same hI rfl)
        · obtain rfl := Option.some.inj ho
          intro ρ wi hE hI hs hd
          try dsimp only at hI
          obtain ⟨u21, g21, e21⟩ := hd 3 21 (by kernel_rfl) (by kernel_rfl) (by show _ < 43; decide)
          obtain rfl : u21 = .pointer (some ⟨wr.heap.size, 0, none⟩) := g21
          have hx := HX.out wi hI 0 _ rfl
          exact Reg.Gives.value (v := .int .i64 a) (w' := wi) (by go_simp) (Reg.OwedH.same hI rfl)
        · obtain rfl := Option.some.inj ho
          intro ρ wi hE hI hs hd
          try dsimp only at hI
          have e5 : ρ (.tmp 5) = .pointer (some ⟨wr.heap.size, 0, none⟩) := hs 5 (by kernel_rfl)
          exact Reg.Gives.value (v := .pointer (some ⟨wr.heap.size, 1, none⟩)) (w' := wi) (by go_simp) (Reg.OwedH.same hI rfl)
        · obtain rfl := Option.some.inj ho
          intro ρ wi hE hI hs hd
          try dsimp only at hI
          obtain ⟨u23, g23, e23⟩ := hd 5 23 (by kernel_rfl) (by kernel_rfl) (by show _ < 43; decide)
          obtain rfl : u23 = .pointer (some ⟨wr.heap.size, 1, none⟩) := g23
          have hx := HX.out wi hI 1 _ rfl
          exact Reg.Gives.value (v := .int .i64 b) (w' := wi) (by go_simp) (Reg.OwedH.same hI rfl)
        · obtain rfl := Option.some.inj ho
          intro ρ wi hE hI hs hd
          try dsimp only at hI
          have e5 : ρ (.tmp 5) = .pointer (some ⟨wr.heap.size, 0, none⟩) := hs 5 (by kernel_rfl)
          exact Reg.Gives.value (v := .pointer (some ⟨wr.heap.size, 2, none⟩)) (w' := wi) (by go_simp) (Reg.OwedH.same hI rfl)
        · obtain rfl := Option.some.inj ho
          intro ρ wi hE hI hs hd
          try dsimp only at hI
          obtain ⟨u25, g25, e25⟩ := hd 7 25 (by kernel_rfl) (by kernel_rfl) (by show _ < 43; decide)
          obtain rfl : u25 = .pointer (some ⟨wr.heap.size, 2, none⟩) := g25
          have hx := HX.out wi hI 2 _ rfl
          exact Reg.Gives.value (v := .int .i64 c) (w' := wi) (by go_simp) (Reg.OwedH.same hI rfl)
        · obtain rfl := Option.some.inj ho
          intro ρ wi hE hI hs hd
          try dsimp only at hI
          obtain ⟨u22, g22, e22⟩ := hd 4 22 (by kernel_rfl) (by kernel_rfl) (by show _ < 43; decide)
          obtain rfl : u22 = .int .i64 a := g22
          obtain ⟨u24, g24, e24⟩ := hd 6 24 (by kernel_rfl) (by kernel_rfl) (by show _ < 43; decide)
          obtain rfl : u24 = .int .i64 b := g24
          obtain ⟨u26, g26, e26⟩ := hd 8 26 (by kernel_rfl) (by kernel_rfl) (by show _ < 43; decide)
          obtain rfl : u26 = .int .i64 c := g26
          have hal := below_alloc wi (.cells #[.int .i64 a, .int .i64 b, .int .i64 c] 3)
          exact Reg.Gives.value (v := .slice (some ⟨wi.heap.size, 0, none⟩) 3 3) (w' := wi.alloc (.cells #[.int .i64 a, .int .i64 b, .int .i64 c] 3)) (by go_simp) ⟨⟨_, rfl, ⟨cells_new wi _ _ _ rfl, hI.size⟩⟩, hI.trans (hal.mono hI.size), fun j u _ _ h => wItA_later hal h⟩
        · obtain rfl := Option.some.inj ho
          intro ρ wi hE hI hs hd
          try dsimp only at hI
          obtain ⟨u20, g20, e20⟩ := hd 2 20 (by kernel_rfl) (by kernel_rfl) (by show _ < 43; decide)
          obtain rfl : u20 = .pointer (some ⟨g, 0, none⟩) := g20
          obtain ⟨u27, g27, e27⟩ := hd 9 27 (by kernel_rfl) (by kernel_rfl) (by show _ < 43; decide)
          have hf := hE.func
          obtain ⟨k, rfl, hck, hk0⟩ := g27
          refine Reg.Gives.call (f := 46) (args := #[.pointer (some ⟨g, 0, none⟩), .slice (some ⟨k, 0, none⟩) 3 3]) (w' := wi) (by go_simp) ?_
          have hlt := HLT.out
          refine (nums_any wi base g r' st2 [a, b, c] k 3 (HWN.out.later hI) (by have := HSZ.out; simp; omega) (by simp) (fun j hj => by have h := cells_nums hck j hj; rw [Nat.zero_add] at h; exact h) (by omega) (fun e => by have := hlt.2 k e; omega)).mono ?_
          rintro e w'' ⟨rfl, r2, hw', ht'⟩
          exact ⟨_, rfl, ⟨rfl, ⟨r2, hw', Turn.before hI ht'⟩, fun j u _ hal h => wItA_keep (fun e => by subst e; rw [show Reg.alive _ _ 10 9 = false by kernel_rfl] at hal; cases hal) h⟩⟩
        · omega
      · intro V wa hV hI
        simp only [Reg.putsO, List.foldl_cons, List.foldl_nil, Act.put, List.setIfInBounds_toArray, List.set_cons_succ, List.set_cons_zero]
        replace hI : (fun a' => ∃ r2, Wr a' base g r2 (st2.map (· ++ nums [a, b, c])) ∧ Turn wn a' g r' r2) wa := hI
        clear hV
        obtain ⟨r2, hwa, hta⟩ := hI
        have HWA := Lib.hid hwa
        have HTA := Lib.hid (HTN.out.trans hta)
        have HCA : Hid (Cells wa wr.heap.size 83 [.int .i64 a, .int .i64 b, .int .i64 c, .bool t, .int .i64 n]) := Lib.hid (cells_only HCN.out hta.1 (by
          rintro (e | e)
          · have := HGR.out.1; omega
          · have := HGR.out.2 _ e.symm; omega))
        have HXA : Hid (∀ wi, Below wa.heap.size wa wi → ∀ j u, [Value.int .i64 a, .int .i64 b, .int .i64 c, .bool t, .int .i64 n][j]? = some u → wi.cell? ⟨wr.heap.size, j, none⟩ = some u) := Lib.hid fun wi hb j u hu => (HCA.out.later hb).cell hu
        have HRA : Hid (∀ k, r2 = some k → k < wr.heap.size ∨ wr.heap.size < k) := Lib.hid fun k hk => by
          rcases hta.2 k hk with h3 | h3
          · exact Or.inl (HGR.out.2 k h3.symm)
          · have h4 := HCN.out.lt
            omega
        clear hwa hta
        go_wp2_with fail
        refine Reg.region_heavy (by kernel_rfl) 5 [] (wItB t g wr.heap.size) (fun a => Below wa.heap.size wa a) (fun a' => ∃ r3, Wr a' base g r3 ((st2.map (· ++ nums [a, b, c])).map (· ++ [if t then 1 else 0])) ∧ Turn wa a' g r2 r3) (fun V => [(some 29, V 0), (some 30, V 1), (some 31, V 2), (some 32, V 3), (some 33, V 4), (some 34, V 5)]) (by kernel_rfl) (by kernel_rfl) (by kernel_rfl) (fun V => rfl) ?_ ?_ ?_
        · exact (Below.refl _ _).drew
        · intro i o ho
          have hi : i < 6 := (Array.getElem?_eq_some_iff.1 ho).1
          rcases i with _ | _ | _ | _ | _ | _ | i
          · obtain rfl := Option.some.inj ho
            intro ρ wi hE hI hs hd
            try dsimp only at hI
            have e0 : ρ (.tmp 0) = .pointer (some ⟨g, 0, none⟩) := hs 0 (by kernel_rfl)
            exact Reg.Gives.value (v := .pointer (some ⟨g, 0, none⟩)) (w' := wi) (by go_simp) (Reg.OwedH.same hI rfl)
          · obtain rfl := Option.some.inj ho
            intro ρ wi hE hI hs hd
            try dsimp only at hI
            obtain ⟨u29, g29, e29⟩ := hd 0 29 (by kernel_rfl) (by kernel_rfl) (by show _ < 43; decide)
            obtain rfl : u29 = .pointer (some ⟨g, 0, none⟩) := g29
            exact Reg.Gives.value (v := .pointer (some ⟨g, 0, none⟩)) (w' := wi) (by go_simp) (Reg.OwedH.same hI rfl)
          · obtain rfl := Option.some.inj ho
            intro ρ wi hE hI hs hd
            try dsimp only at hI
            obtain ⟨u30, g30, e30⟩ := hd 1 30 (by kernel_rfl) (by kernel_rfl) (by show _ < 43; decide)
            obtain rfl : u30 = .pointer (some ⟨g, 0, none⟩) := g30
            exact Reg.Gives.value (v := .pointer (some ⟨g, 0, none⟩)) (w' := wi) (by go_simp) (Reg.OwedH.same hI rfl)
          · obtain rfl := Option.some.inj ho
            intro ρ wi hE hI hs hd
            try dsimp only at hI
            have e5 : ρ (.tmp 5) = .pointer (some ⟨wr.heap.size, 0, none⟩) := hs 5 (by kernel_rfl)
            exact Reg.Gives.value (v := .pointer (some ⟨wr.heap.size, 3, none⟩)) (w' := wi) (by go_simp) (Reg.OwedH.same hI rfl)
          · obtain rfl := Option.some.inj ho
            intro ρ wi hE hI hs hd
            try dsimp only at hI
            obtain ⟨u32, g32, e32⟩ := hd 3 32 (by kernel_rfl) (by kernel_rfl) (by show _ < 43; decide)
            obtain rfl : u32 = .pointer (some ⟨wr.heap.size, 3, none⟩) := g32
            have hx := HXA.out wi hI 3 _ rfl
            exact Reg.Gives.value (v := .bool t) (w' := wi) (by go_simp) (Reg.OwedH.same hI rfl)
          · obtain rfl := Option.some.inj ho
            intro ρ wi hE hI hs hd
            try dsimp only at hI
            obtain ⟨u31, g31, e31⟩ := hd 2 31 (by kernel_rfl) (by kernel_rfl) (by show _ < 43; decide)
            obtain rfl : u31 = .pointer (some ⟨g, 0, none⟩) := g31
            obtain ⟨u33, g33, e33⟩ := hd 4 33 (by kernel_rfl) (by kernel_rfl) (by show _ < 43; decide)
            obtain rfl : u33 = .bool t := g33
            have hf := hE.func
            refine Reg.Gives.call (f := 45) (args := #[.pointer (some ⟨g, 0, none⟩), .bool t]) (w' := wi) (by go_simp) ?_
            refine (bool_any wi base g r2 _ t (HWA.out.later hI) HSZA.out).mono ?_
            rintro e w'' ⟨rfl, r3, hw', ht'⟩
            exact ⟨_, rfl, ⟨rfl, ⟨r3, hw', Turn.before hI ht'⟩, fun j u _ hal h => wItB_keep h⟩⟩
          · omega
        · intro V wb hV hI
          simp only [Reg.putsO, List.foldl_cons, List.foldl_nil, Act.put, List.setIfInBounds_toArray, List.set_cons_succ, List.set_cons_zero]
          replace hI : (fun a' => ∃ r3, Wr a' base g r3 ((st2.map (· ++ nums [a, b, c])).map (· ++ [if t then 1 else 0])) ∧ Turn wa a' g r2 r3) wb := hI
          clear hV
          obtain ⟨r3, hwb, htb⟩ := hI
          have HWB := Lib.hid hwb
          have HLTB := Lib.hid hwb.lt
          have HTB := Lib.hid (HTA.out.trans htb)
          have HCB : Hid (Cells wb wr.heap.size 83 [.int .i64 a, .int .i64 b, .int .i64 c, .bool t, .int .i64 n]) := Lib.hid (cells_only HCA.out htb.1 (by
            rintro (e | e)
            · have := HGR.out.1; omega
            · have := HRA.out _ e.symm; omega))
          have HXB : Hid (∀ wi, Below wb.heap.size wb wi → ∀ j u, [Value.int .i64 a, .int .i64 b, .int .i64 c, .bool t, .int .i64 n][j]? = some u → wi.cell? ⟨wr.heap.size, j, none⟩ = some u) := Lib.hid fun wi hb j u hu => (HCB.out.later hb).cell hu
          clear hwb htb
          go_wp2_with fail
          refine Reg.region_heavy (by kernel_rfl) 6 [] (wItC n g wb.heap.size wr.heap.size) (fun a => Below wb.heap.size wb a) (fun a' => ∃ r4, Wr a' base g r4 (((st2.map (· ++ nums [a, b, c])).map (· ++ [if t then 1 else 0])).map (· ++ nums [n])) ∧ Turn wb a' g r3 r4) (fun V => [(some 35, V 0), (some 36, V 1), (some 37, V 2), (some 38, V 3), (some 39, V 4), (some 40, V 5), (some 41, V 6)]) (by kernel_rfl) (by kernel_rfl) (by kernel_rfl) (fun V => rfl) ?_ ?_ ?_
          · exact (Below.refl _ _).drew
          · intro i o ho
            have hi : i < 7 := (Array.getElem?_eq_some_iff.1 ho).1
            rcases i with _ | _ | _ | _ | _ | _ | _ | i
            · obtain rfl := Option.some.inj ho
              intro ρ wi hE hI hs hd
              try dsimp only at hI
              have e0 : ρ (.tmp 0) = .pointer (some ⟨g, 0, none⟩) := hs 0 (by kernel_rfl)
              exact Reg.Gives.value (v := .pointer (some ⟨g, 0, none⟩)) (w' := wi) (by go_simp) (Reg.OwedH.same hI rfl)
            · obtain rfl := Option.some.inj ho
              intro ρ wi hE hI hs hd
              try dsimp only at hI
              obtain ⟨u35, g35, e35⟩ := hd 0 35 (by kernel_rfl) (by kernel_rfl) (by show _ < 43; decide)
              obtain rfl : u35 = .pointer (some ⟨g, 0, none⟩) := g35
              exact Reg.Gives.value (v := .pointer (some ⟨g, 0, none⟩)) (w' := wi) (by go_simp) (Reg.OwedH.same hI rfl)
            · obtain rfl := Option.some.inj ho
              intro ρ wi hE hI hs hd
              try dsimp only at hI
              obtain ⟨u36, g36, e36⟩ := hd 1 36 (by kernel_rfl) (by kernel_rfl) (by show _ < 43; decide)
              obtain rfl : u36 = .pointer (some ⟨g, 0, none⟩) := g36
              exact Reg.Gives.value (v := .pointer (some ⟨g, 0, none⟩)) (w' := wi) (by go_simp) (Reg.OwedH.same hI rfl)
            · obtain rfl := Option.some.inj ho
              intro ρ wi hE hI hs hd
              try dsimp only at hI
              have e5 : ρ (.tmp 5) = .pointer (some ⟨wr.heap.size, 0, none⟩) := hs 5 (by kernel_rfl)
              exact Reg.Gives.value (v := .pointer (some ⟨wr.heap.size, 4, none⟩)) (w' := wi) (by go_simp) (Reg.OwedH.same hI rfl)
            · obtain rfl := Option.some.inj ho
              intro ρ wi hE hI hs hd
              try dsimp only at hI
              obtain ⟨u38, g38, e38⟩ := hd 3 38 (by kernel_rfl) (by kernel_rfl) (by show _ < 43; decide)
              obtain rfl : u38 = .pointer (some ⟨wr.heap.size, 4, none⟩) := g38
              have hx := HXB.out wi hI 4 _ rfl
              exact Reg.Gives.value (v := .int .i64 n) (w' := wi) (by go_simp) (Reg.OwedH.same hI rfl)
            · obtain rfl := Option.some.inj ho
              intro ρ wi hE hI hs hd
              try dsimp only at hI
              obtain ⟨u39, g39, e39⟩ := hd 4 39 (by kernel_rfl) (by kernel_rfl) (by show _ < 43; decide)
              obtain rfl : u39 = .int .i64 n := g39
              have hal := below_alloc wi (.cells #[.int .i64 n] 3)
              exact Reg.Gives.value (v := .slice (some ⟨wi.heap.size, 0, none⟩) 1 1) (w' := wi.alloc (.cells #[.int .i64 n] 3)) (by go_simp) ⟨⟨_, rfl, ⟨cells_new wi _ _ _ rfl, hI.size⟩⟩, hI.trans (hal.mono hI.size), fun j u _ _ h => wItC_later hal h⟩
            · obtain rfl := Option.some.inj ho
              intro ρ wi hE hI hs hd
              try dsimp only at hI
              obtain ⟨u37, g37, e37⟩ := hd 2 37 (by kernel_rfl) (by kernel_rfl) (by show _ < 43; decide)
              obtain rfl : u37 = .pointer (some ⟨g, 0, none⟩) := g37
              obtain ⟨u40, g40, e40⟩ := hd 5 40 (by kernel_rfl) (by kernel_rfl) (by show _ < 43; decide)
              have hf := hE.func
              obtain ⟨k, rfl, hck, hk0⟩ := g40
              refine Reg.Gives.call (f := 46) (args := #[.pointer (some ⟨g, 0, none⟩), .slice (some ⟨k, 0, none⟩) 1 1]) (w' := wi) (by go_simp) ?_
              have hlt := HLTB.out
              refine (nums_any wi base g r3 _ [n] k 1 (HWB.out.later hI) HSZB.out (by simp) (fun j hj => by have h := cells_nums hck j hj; rw [Nat.zero_add] at h; exact h) (by omega) (fun e => by have := hlt.2 k e; omega)).mono ?_
              rintro e w'' ⟨rfl, r4, hw', ht'⟩
              exact ⟨_, rfl, ⟨rfl, ⟨r4, hw', Turn.before hI ht'⟩, fun j u _ hal h => wItC_keep (fun e => by subst e; rw [show Reg.alive _ _ 6 5 = false by kernel_rfl] at hal; cases hal) h⟩⟩
            · omega
          · intro V wc hV hI
            simp only [Reg.putsO, List.foldl_cons, List.foldl_nil, Act.put, List.setIfInBounds_toArray, List.set_cons_succ, List.set_cons_zero]
            replace hI : (fun a' => ∃ r4, Wr a' base g r4 (((st2.map (· ++ nums [a, b, c])).map (· ++ [if t then 1 else 0])).map (· ++ nums [n])) ∧ Turn wb a' g r3 r4) wc := hI
            clear hV
            obtain ⟨r4, hwc, htc⟩ := hI
            rw [HAPP.out] at hwc
            have HWC := Lib.hid hwc
            have HTC := Lib.hid (HTB.out.trans htc)
            clear hwc htc
            go_wp2_with fail
            go_roundw
            case rel => exact ⟨k + 1, r4, by omega, by go_num, HWC.out, HTC.out⟩
            case measure => simp [intOf]; omega
    · have e : l.take k = l := List.take_of_length_le (by omega)
      rw [e, HFIN.out] at hw1
      have HW1 := Lib.hid hw1
      clear hw1 ht1
      go_wp2_with fail
      go_returns
      exact ⟨rfl, r', HW1.out, HT1.out⟩
end Go.Proofs.Ytfnkjdkckpdfhaa.Item
