/-
  Layer 2's writer in memory, wherever it lies (in a block of its own, or within another thing's): what it holds, and what each of its methods does. Conditions: none.
-/
import Derived.Test.YtifcpglifcjdjaaBig
import Derived.Test.YtifcpglifcjdjaaOnly
import Derived.Lib.UnsafeStr
import Derived.Lib.BufferWrite
import Derived.Deep.RegionWith
namespace Go.Proofs.Ytifcpglifcjdjaa.Wire
open Go.RowKit Go.Proofs.Ytifcpglifcjdjaa.Mem

/-- A writer in block g, its row in block r: what was put; none: it is bad. -/
def Wr (w : World) (base g : Nat) (r : Option Nat) (st : Option (List UInt8)) : Prop :=
  ∃ v t, v.ownBlock = r ∧ r ≠ some g ∧ base ≤ g ∧ Cells w g t [v, .bool st.isNone] ∧ w.ownsRow base 5 1 v (st.getD []).length ((st.getD []).map bv)
theorem Wr.own {w : World} {base g : Nat} {r : Option Nat} {st : Option (List UInt8)} (h : Wr w base g r st) : base ≤ g ∧ ∀ k, r = some k → base ≤ k := by
  obtain ⟨v, tt, rfl, _, hg, _, ho⟩ := h
  exact ⟨hg, fun k hk => (ho.lt k hk).1⟩
theorem Wr.lt {w : World} {base g : Nat} {r : Option Nat} {st : Option (List UInt8)} (h : Wr w base g r st) : g < w.heap.size ∧ ∀ k, r = some k → k < w.heap.size := by
  obtain ⟨v, tt, rfl, _, hg, hc, ho⟩ := h
  exact ⟨hc.lt, fun k hk => (ho.lt k hk).2⟩
end Go.Proofs.Ytifcpglifcjdjaa.Wire
namespace Go.Proofs.Ytifcpglifcjdjaa.Mem
open Go.RowKit Go.Proofs.Ytifcpglifcjdjaa.Wire
theorem Turn.below {w w' : World} {base g : Nat} {r r' : Option Nat} {st : Option (List UInt8)} (h : Turn w w' g r r') (hw : Wr w base g r st) (hb : base ≤ w.heap.size) : Below base w w' :=
  h.1.below hb (by
    rintro k (rfl | hk)
    · exact hw.own.1
    · exact hw.own.2 k hk.symm)
end Go.Proofs.Ytifcpglifcjdjaa.Mem
namespace Go.Proofs.Ytifcpglifcjdjaa.Wire
open Go.RowKit Go.Proofs.Ytifcpglifcjdjaa.Mem
theorem Wr.only {S : Nat → Prop} {w w' : World} {base g : Nat} {r : Option Nat} {st : Option (List UInt8)} (h : Wr w base g r st) (ho : Only S w w') (hg : ¬ S g) (hr : ∀ k, r = some k → ¬ S k) : Wr w' base g r st := by
  obtain ⟨v, tt, rfl, h1, h2, hc, hw⟩ := h
  exact ⟨v, tt, rfl, h1, h2, cells_only hc ho hg, row_only hw ho hr⟩
theorem Wr.later {w w' : World} {base g : Nat} {r : Option Nat} {st : Option (List UInt8)} (h : Wr w base g r st) (hb : Below w.heap.size w w') : Wr w' base g r st :=
  h.only (S := fun _ => False) (Only.of_below hb) (fun h => h) (fun _ _ h => h)

theorem wr_new' (w : World) (base : Nat) (t : TypeId) (hb : base ≤ w.heap.size) : Wr (w.alloc (.cells #[.slice none 0 0, .bool false] t)) base w.heap.size none (some []) :=
  ⟨.slice none 0 0, _, rfl, by simp, hb, cells_new w _ _ _ rfl, World.ownsRow_nil _ _ _ _⟩
theorem wr_new (w : World) (base : Nat) (hb : base ≤ w.heap.size) : Wr (w.alloc (.cells #[.slice none 0 0, .bool false] 92)) base w.heap.size none (some []) :=
  ⟨.slice none 0 0, _, rfl, by simp, hb, cells_new w _ _ _ rfl, World.ownsRow_nil _ _ _ _⟩

theorem own_slice {w : World} {base : Nat} {e : TypeId} {size : Nat} {v : Value} {n : Nat} {xs : List Value} (h : w.ownsRow base e size v n xs) : ∃ A k c, v = .slice A k c := by
  rcases h.2 with ⟨rfl, _⟩ | ⟨g, cap, cur, rfl, _⟩
  · exact ⟨_, _, _, rfl⟩
  · exact ⟨_, _, _, rfl⟩
theorem bv_one (l : List UInt8) : ∀ u ∈ l.map bv, u.oneCell' = true := by
  intro u hu
  obtain ⟨b, _, rfl⟩ := List.mem_map.1 hu
  rfl

theorem Wr.base {w : World} {base g : Nat} {r : Option Nat} {st : Option (List UInt8)} (h : Wr w base g r st) : base ≤ w.heap.size := Nat.le_trans h.own.1 (Nat.le_of_lt h.lt.1)

theorem byte_any (w : World) (base g : Nat) (r : Option Nat) (st : Option (List UInt8)) (bs : List UInt8) (ad : Addr) (c : Nat) (h : Wr w base g r st)
    (hbs : ∀ j u, (bs.map bv)[j]? = some u → w.cell? (ad.add j) = some u) (hn : (st.getD []).length + bs.length ≤ 140737488355328) :
    Calls Try.prog 33 #[.pointer (some ⟨g, 0, none⟩), .slice (some ad) bs.length c] w fun e w' => e = .returned (.tuple #[]) ∧ ∃ r', Wr w' base g r' (st.map (· ++ bs)) ∧ Turn w w' g r r' := by
  have hw := h
  have hb := h.base
  obtain ⟨v, tt, rfl, h1, h2, hc, ho⟩ := h
  have c0 := hc.cell (j := 0) rfl
  have c1 := hc.cell (j := 1) rfl
  have hf := hc.frozen (j := 0) (by simp)
  cases st with
  | none =>
    simp only [Option.isNone_none] at c1
    have HW := Lib.hid hw
    clear hw hc ho hbs hn hf c0
    go_enter Try.func33, Try.ntmps33
    go_wp2
    go_returns
    exact ⟨rfl, _, HW.out, Turn.refl _ _ _⟩
  | some l =>
    simp only [Option.isNone_some, Option.getD_some] at c1 ho hn
    obtain ⟨i0, hi, hz0, hz1, hz2⟩ := info_parts infoByte
    have H1 := Lib.hid h1
    have H2 := Lib.hid h2
    have HC := Lib.hid hc
    have HO := Lib.hid ho
    have HL := Lib.hid hc.lt
    have hm : l.length + bs.length ≤ maxLen := by unfold maxLen; omega
    clear hw hc ho
    go_enter Try.func33, Try.ntmps33
    go_wp2_with (at_builtin
                 refine wpList_append_own_at _ rfl (.tmp 13) (.tmp 14) 90 rfl base 5 i0 (.int .u8 0) 1 1 Try.underlying90 hi hz0 hz1 hz2 rfl (by decide) v l.length (l.map bv) rfl HO.out ad bs.length c (bs.map bv) rfl (by simp) hbs (bv_one bs) hm (by omega) hb ?_
                 intro v' w1 ho1 hg1 hx1 hat1
                 clear hx1
                 obtain ⟨A1, n1, k1, rfl⟩ := own_slice ho1
                 have hcw : Cells w1 g tt [v, .bool false] := cells_only HC.out (Only.of_grown hg1) (fun e => H1.out e.symm)
                 have hf1 := hcw.frozen (j := 0) (by simp)
                 have c2 := hcw.cell (j := 0) rfl
                 have HCW := Lib.hid hcw
                 have HOW := Lib.hid ho1
                 have HAT := Lib.hid hat1
                 have HGR := Lib.hid hg1
                 clear ho1 hat1 hg1 hcw hf c0 c1)
    go_returns
    have ho1 := HOW.out
    have hat1 := HAT.out
    have hg1 := HGR.out
    generalize Value.slice A1 n1 k1 = v' at *
    refine ⟨rfl, v'.ownBlock, ⟨v', tt, rfl, ?_, H2.out, HCW.out.set_ 0 v', ?_⟩, ?_, ?_⟩
    · rcases hat1 with e | e
      · rw [e]; exact H1.out
      · rw [e]; intro e2; have := HL.out; simp at e2; omega
    · have h3 := row_only ho1 (Only.of_set w1 ⟨g, 0, none⟩ v') (fun k hk => by
        show k ≠ g
        rcases hat1 with e | e
        · rw [e] at hk; intro e2; subst e2; exact H1.out hk
        · rw [e] at hk; intro e2; have := HL.out; simp at hk; omega)
      simpa using h3
    · exact ((Only.of_grown hg1).mono fun k _ hk => Or.inr hk).trans (Only.of_set w1 ⟨g, 0, none⟩ v') fun k _ hk => Or.inl hk
    · intro k hk
      rcases hat1 with e | e
      · exact Or.inl (by rw [← hk, e])
      · right; rw [e] at hk; simp at hk; omega

theorem spoil_any (w : World) (base g : Nat) (r : Option Nat) (st : Option (List UInt8)) (h : Wr w base g r st) :
    Calls Try.prog 77 #[.pointer (some ⟨g, 0, none⟩)] w fun e w' => e = .returned (.tuple #[]) ∧ ∃ r', Wr w' base g r' none ∧ Turn w w' g r r' := by
  obtain ⟨v, tt, rfl, h1, h2, hc, ho⟩ := h
  have hf0 := hc.frozen (j := 0) (by simp)
  have hf1 := hc.frozen (j := 1) (by simp)
  have c0 := hc.cell (j := 0) rfl
  have c1 := hc.cell (j := 1) rfl
  have HC := Lib.hid hc
  clear hc ho
  go_enter Try.func77, Try.ntmps77
  go_wp2
  go_returns
  refine ⟨rfl, none, ⟨.slice none 0 0, tt, rfl, by simp, h2, ?_, World.ownsRow_nil _ _ _ _⟩, ?_, fun k hk => by cases hk⟩
  · exact (HC.out.set_ 0 (.slice none 0 0)).set_ 1 (.bool true)
  · exact ((Only.of_set w ⟨g, 0, none⟩ (.slice none 0 0)).trans (Only.of_set _ ⟨g, 1, none⟩ (.bool true)) fun k _ hk => hk).mono fun k _ hk => Or.inl hk

theorem big_at (n : Nat) : ∀ (size j : Nat), j < size → (big n size)[size - (j + 1)]? = some (UInt8.ofNat (n / 256 ^ j))
  | size + 1, j, h => by
    by_cases e : j = size
    · subst e; simp [big]
    · rw [show size + 1 - (j + 1) = size - (j + 1) + 1 by omega, big, List.getElem?_cons_succ]
      exact big_at n size j (by omega)
theorem big_take (n size j : Nat) (h : j < size) : (big n size).take (size - j) = (big n size).take (size - (j + 1)) ++ [UInt8.ofNat (n / 256 ^ j)] := by
  have h1 := big_at n size j h
  rw [show size - j = size - (j + 1) + 1 by omega, List.take_add_one, h1]
  rfl

theorem byte_lt (n j : Nat) : ((n : Int) / 2 ^ (8 * j) % 256) = ((UInt8.ofNat (n / 256 ^ j)).toNat : Int) := by
  have e : (UInt8.ofNat (n / 256 ^ j)).toNat = n / 256 ^ j % 256 := by rw [UInt8.toNat_ofNat']
  have e2 : (2 : Nat) ^ (8 * j) = 256 ^ j := by rw [Nat.pow_mul]
  rw [e, ← e2]
  simp

theorem number_any (n size : Nat) (w : World) (base g : Nat) (r : Option Nat) (st : Option (List UInt8)) (h : Wr w base g r st) (hs : size ≤ 8) (hl : (st.getD []).length ≤ 1000000000) :
    Calls Try.prog 61 #[.pointer (some ⟨g, 0, none⟩), .int .u64 (n : Int), .int .i64 (size : Int)] w fun e w' => e = .returned (.tuple #[]) ∧ ∃ r', Wr w' base g r' (st.map (· ++ big n size)) ∧ Turn w w' g r r' := by
  have HW := Lib.hid h
  clear h
  go_enter Try.func61, Try.ntmps61
  go_wp2
  go_loopw [6] (fun i wr => ∃ j r', j ≤ size ∧ i = .int .i64 ((j : Int) - 1) ∧ Wr wr base g r' (st.map (· ++ (big n size).take (size - j))) ∧ Turn w wr g r r') (fun i _ => (intOf i + 1).toNat)
  case atStart => 
    refine ⟨size, r, Nat.le_refl _, rfl, ?_, Turn.refl _ _ _⟩
    rw [Nat.sub_self, List.take_zero]
    have e : st.map (· ++ ([] : List UInt8)) = st := by cases st <;> simp
    rw [e]
    exact HW.out
  case round =>
    obtain ⟨j, r', hj, rfl, hw1, ht1⟩ := hrel
    cases j with
    | zero =>
      rw [Nat.sub_zero, List.take_of_length_le (by rw [big_length]; exact Nat.le_refl _)] at hw1
      go_wp2
      go_returns
      exact ⟨rfl, r', hw1, ht1⟩
    | succ j =>
      rw [show (((j + 1 : Nat) : Int) - 1) = (j : Int) by omega]
      have HW1 := Lib.hid hw1
      have HT1 := Lib.hid ht1
      have hlt : 8 * j < 64 := by omega
      have hb' := byte_lt n j
      have hlen : ((st.map (· ++ (big n size).take (size - (j + 1)))).getD []).length + 1 ≤ 140737488355328 := by
        cases st with
        | none => simp
        | some l => simp only [Option.map_some, Option.getD_some, List.length_append, List.length_take] at hl ⊢; omega
      have HLE := Lib.hid hlen
      clear hw1 ht1 hlen
      go_wp2_with fail
      rw [hb']
      refine (byte_any _ base g r' _ [UInt8.ofNat (n / 256 ^ j)] ⟨wr.heap.size, 0, none⟩ 1 (HW1.out.later (below_alloc _ _)) (cell_one_new _ _ _) HLE.out).mono ?_
      rintro e w2 ⟨rfl, r2, hw2, ht2⟩
      have HW2 := Lib.hid hw2
      have HT2 := Lib.hid (HT1.out.trans (Turn.before (below_alloc _ _) ht2))
      clear hw2 ht2
      go_wp2
      go_roundw
      case rel =>
        refine ⟨j, r2, by omega, rfl, ?_, HT2.out⟩
        rw [big_take n size j (by omega)]
        have h2 := HW2.out
        rw [Option.map_map] at h2
        simpa [Function.comp_def] using h2
      case measure => simp [intOf]

theorem string_any (w : World) (base g : Nat) (r : Option Nat) (st : Option (List UInt8)) (h : Wr w base g r st) :
    Calls Try.prog 36 #[.pointer (some ⟨g, 0, none⟩)] w fun e w' => e = .returned (.string ⟨(st.getD []).toArray⟩) ∧ w = w' := by
  obtain ⟨v, tt, rfl, h1, h2, hc, ho⟩ := h
  have c0 := hc.cell (j := 0) rfl
  have hs := string_row (P := Try.prog) Try.underlying90 Try.underlying5 Try.underlying9 ho
  clear hc ho
  go_enter Try.func36, Try.ntmps36
  go_wp2
  go_returns
  exact ⟨rfl, rfl⟩

/-- What a count leaves. -/
def countSt (st : Option (List UInt8)) (n : Int) : Option (List UInt8) := if n < 0 ∨ 65535 < n then none else st.map (· ++ big (u64 n) 2)
theorem count_any (w : World) (base g : Nat) (r : Option Nat) (st : Option (List UInt8)) (n : Int) (h : Wr w base g r st) (hl : (st.getD []).length ≤ 1000000000) :
    Calls Try.prog 62 #[.pointer (some ⟨g, 0, none⟩), .int .i64 n] w fun e w' => e = .returned (.tuple #[]) ∧ ∃ r', Wr w' base g r' (countSt st n) ∧ Turn w w' g r r' := by
  have HW := Lib.hid h
  clear h
  by_cases hn : n < 0 ∨ 65535 < n
  · have e : countSt st n = none := if_pos hn
    rw [e]
    by_cases hn3 : n < 0
    · clear hn
      go_enter Try.func62, Try.ntmps62
      go_wp2_with fail
      refine (spoil_any _ base g r _ HW.out).mono ?_
      rintro e w2 ⟨rfl, r2, hw2, ht2⟩
      have HW2 := Lib.hid hw2
      have HT2 := Lib.hid ht2
      clear hw2 ht2
      go_wp2
      go_returns
      exact ⟨rfl, r2, HW2.out, HT2.out⟩
    · have hn4 : 65535 < n := by omega
      clear hn
      go_enter Try.func62, Try.ntmps62
      go_wp2_with fail
      refine (spoil_any _ base g r _ HW.out).mono ?_
      rintro e w2 ⟨rfl, r2, hw2, ht2⟩
      have HW2 := Lib.hid hw2
      have HT2 := Lib.hid ht2
      clear hw2 ht2
      go_wp2
      go_returns
      exact ⟨rfl, r2, HW2.out, HT2.out⟩
  · have e : countSt st n = st.map (· ++ big (u64 n) 2) := if_neg hn
    rw [e]
    have HC := Lib.hid (show ((u64 n : Nat) : Int) = n by unfold u64; omega)
    have h1 : ¬ n < 0 := by omega
    have h2 : ¬ 65535 < n := by omega
    clear hn
    go_enter Try.func62, Try.ntmps62
    go_wp2_with fail
    have hcall := number_any (u64 n) 2 _ base g r _ HW.out (by omega) hl
    rw [HC.out] at hcall
    refine hcall.mono ?_
    rintro e w2 ⟨rfl, r2, hw2, ht2⟩
    have HW2 := Lib.hid hw2
    have HT2 := Lib.hid ht2
    clear hw2 ht2 hcall
    go_wp2
    go_returns
    exact ⟨rfl, r2, HW2.out, HT2.out⟩

/-- Numbers' bytes. -/
def nums (l : List Int) : List UInt8 := l.flatMap fun n => big (u64 n) 8
theorem nums_length (l : List Int) : (nums l).length = 8 * l.length := by
  induction l with
  | nil => rfl
  | cons a l ih =>
    unfold nums at ih ⊢
    rw [List.flatMap_cons, List.length_append, big_length, ih, List.length_cons]
    omega
theorem nums_take (l : List Int) (k : Nat) (h : k < l.length) : nums (l.take (k + 1)) = nums (l.take k) ++ big (u64 l[k]) 8 := by
  rw [List.take_succ_eq_append_getElem h]
  unfold nums
  rw [List.flatMap_append]
  simp
theorem nums_any (w : World) (base g : Nat) (r : Option Nat) (st : Option (List UInt8)) (ns : List Int) (ga c : Nat) (h : Wr w base g r st) (hl : (st.getD []).length ≤ 1000000000 - 8 * ns.length) (hn : ns.length ≤ 1000)
    (hc : ∀ j (hj : j < ns.length), w.cell? ⟨ga, j, none⟩ = some (.int .i64 ns[j])) (hg : ga ≠ g) (hr : r ≠ some ga) :
    Calls Try.prog 34 #[.pointer (some ⟨g, 0, none⟩), .slice (some ⟨ga, 0, none⟩) ns.length c] w fun e w' => e = .returned (.tuple #[]) ∧ ∃ r', Wr w' base g r' (st.map (· ++ nums ns)) ∧ Turn w w' g r r' := by
  have HW := Lib.hid h
  have HCC := Lib.hid hc
  clear h hc
  go_enter Try.func34, Try.ntmps34
  go_wp2
  go_loopw [8] (fun i wr => ∃ k r', k ≤ ns.length ∧ i = .int .i64 (k : Int) ∧ Wr wr base g r' (st.map (· ++ nums (ns.take k))) ∧ Turn w wr g r r') (fun i _ => ns.length - (intOf i).toNat)
  case atStart =>
    refine ⟨0, r, Nat.zero_le _, rfl, ?_, Turn.refl _ _ _⟩
    rw [List.take_zero]
    have e : st.map (· ++ nums []) = st := by cases st <;> simp [nums]
    rw [e]
    exact HW.out
  case round =>
    obtain ⟨k, r', hk, rfl, hw1, ht1⟩ := hrel
    have HW1 := Lib.hid hw1
    have HT1 := Lib.hid ht1
    clear hw1 ht1
    by_cases hlt : k < ns.length
    · have hcell : wr.cell? ⟨ga, k, none⟩ = some (.int .i64 ns[k]) := by
        have h1 := HCC.out k hlt
        refine Eq.trans (World.cell?_of_block (w := w) (HT1.out.1.block ga (block_of_cell h1) ?_)) h1
        rintro (e | e)
        · exact hg e
        · exact hr e.symm
      have HS := Lib.hid (nums_take ns k hlt)
      have HU := Lib.hid (u64_cast ns[k])
      generalize ns[k] = n at *
      have hlen : ((st.map (· ++ nums (ns.take k))).getD []).length ≤ 1000000000 := by
        cases st with
        | none => simp
        | some l => simp only [Option.map_some, Option.getD_some, List.length_append, nums_length, List.length_take] at hl ⊢; omega
      have HLE := Lib.hid hlen
      clear hlen
      go_wp2_with fail
      rw [IntKind.wrap_u64, ← HU.out]
      refine (number_any (u64 n) 8 _ base g r' _ HW1.out (by omega) HLE.out).mono ?_
      rintro e w2 ⟨rfl, r2, hw2, ht2⟩
      have HW2 := Lib.hid hw2
      have HT2 := Lib.hid (HT1.out.trans ht2)
      clear hw2 ht2
      go_wp2
      go_roundw
      case rel =>
        refine ⟨k + 1, r2, by omega, by go_num, ?_, HT2.out⟩
        rw [HS.out]
        have h2 := HW2.out
        rw [Option.map_map] at h2
        simpa [Function.comp_def] using h2
      case measure => simp [intOf]; omega
    · have e : ns.take k = ns := List.take_of_length_le (by omega)
      have hw1 := HW1.out
      rw [e] at hw1
      go_wp2
      go_returns
      exact ⟨rfl, r', hw1, HT1.out⟩

/-- What a text leaves. -/
def textSt (st : Option (List UInt8)) (s : ByteArray) : Option (List UInt8) := if 65535 < s.size then none else st.map (· ++ (big s.size 2 ++ s.data.toList))
theorem text_any (w : World) (base g : Nat) (r : Option Nat) (st : Option (List UInt8)) (s : ByteArray) (h : Wr w base g r st) (hl : (st.getD []).length ≤ 1000000000) (hs : s.size ≤ 1000000000) :
    Calls Try.prog 35 #[.pointer (some ⟨g, 0, none⟩), .string s] w fun e w' => e = .returned (.tuple #[]) ∧ ∃ r', Wr w' base g r' (textSt st s) ∧ Turn w w' g r r' := by
  have HW := Lib.hid h
  have hu : u64 (s.size : Int) = s.size := by unfold u64; omega
  have hfin : (countSt st (s.size : Int)).map (· ++ s.data.toList) = textSt st s := by
    unfold countSt textSt
    by_cases h2 : 65535 < s.size
    · rw [if_pos (Or.inr (by omega)), if_pos h2]; rfl
    · rw [if_neg (by omega), if_neg h2, hu]
      cases st <;> simp
  have hlen : ((countSt st (s.size : Int)).getD []).length ≤ 1000000002 := by
    unfold countSt
    split
    · simp
    · cases st with
      | none => simp
      | some l => simp only [Option.map_some, Option.getD_some, List.length_append, big_length] at hl ⊢; omega
  have HF := Lib.hid hfin
  have HLE := Lib.hid hlen
  clear h hfin hlen hu
  go_enter Try.func35, Try.ntmps35
  go_wp2_with fail
  refine (count_any _ base g r _ (s.size : Int) HW.out hl).mono ?_
  rintro e w2 ⟨rfl, r2, hw2, ht2⟩
  have HW2 := Lib.hid hw2
  have HT2 := Lib.hid ht2
  have hconv := run_bytes_of_string (P := Try.prog) w2 9 90 5 s Try.underlying9 Try.underlying90 Try.underlying5
  have hC : ∀ j (hj : j < s.data.size), (bytesRow s (grownCap w2 s.size 0 5))[j]? = some (.int .u8 (s.data[j].toNat : Int)) := fun j hj => bytesRow_at s _ j hj
  generalize grownCap w2 s.size 0 5 = cap at hconv hC
  generalize bytesRow s cap = C at hconv hC
  have hbel : Below w2.heap.size w2 (w2.drew.alloc (.cells C 5 (C.size, C.size + 1))) := (Below.refl _ w2).drew.alloc (Nat.le_refl _) _
  have hcells : ∀ j u, (s.data.toList.map bv)[j]? = some u → (w2.drew.alloc (.cells C 5 (C.size, C.size + 1))).cell? ((⟨w2.heap.size, 0, none⟩ : Addr).add j) = some u := by
    intro j u hu
    have hnew : (w2.drew.alloc (.cells C 5 (C.size, C.size + 1))).heap[w2.heap.size]? = some (.cells C 5 (C.size, C.size + 1)) := heap_alloc_new w2.drew _
    rw [addr_add, cell_of_row _ _ _ _ _ _ hnew]
    rw [List.getElem?_map] at hu
    obtain ⟨b, hb, rfl⟩ := Option.map_eq_some_iff.1 hu
    obtain ⟨hj, he⟩ := List.getElem?_eq_some_iff.1 hb
    have hj' : j < s.data.size := by simpa using hj
    rw [hC j hj']
    have e2 : s.data[j] = b := by simpa using he
    rw [e2]
    rfl
  have HCE := Lib.hid hcells
  have HBE := Lib.hid hbel
  clear hw2 ht2 hC hcells hbel
  go_wp2_with fail
  clear hconv
  have e1 : s.size = s.data.toList.length := (toList_size s).symm
  have hcall := byte_any _ base g r2 _ s.data.toList ⟨w2.heap.size, 0, none⟩ cap (HW2.out.later HBE.out) HCE.out (by rw [toList_size]; have := HLE.out; omega)
  rw [toList_size] at hcall
  refine hcall.mono ?_
  rintro e w3 ⟨rfl, r3, hw3, ht3⟩
  rw [HF.out] at hw3
  have HW3 := Lib.hid hw3
  have HT3 := Lib.hid (HT2.out.trans (Turn.before HBE.out ht3))
  clear hw3 ht3 e1 hcall
  go_wp2
  go_returns
  exact ⟨rfl, r3, HW3.out, HT3.out⟩
end Go.Proofs.Ytifcpglifcjdjaa.Wire
