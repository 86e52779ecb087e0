/-
  ItemBytes is proved: any name, items and nodes have the bytes that the document says, and come back from them; more than sixteen are none, and the reader is broken. Conditions: none.
-/
import Derived.Test.YtphgnglbniclgaaItemRef
import Derived.Test.YtphgnglbniclgaaItemBack
import Derived.Test.YtphgnglbniclgaaItemSame
import Derived.Test.YtphgnglbniclgaaItemCase
namespace Go.Proofs.Ytphgnglbniclgaa.ItemBytes
open Go.ChangeShapes Go.WideShapes Go.ChangeAt Go.RowKit Go.Proofs.Ytphgnglbniclgaa.Mem Go.Proofs.Ytphgnglbniclgaa.Wire Go.Proofs.Ytphgnglbniclgaa.Item

def bytesSum (t : Tid) (A B : Option Addr) (l : List It) (ns : List Int) (c d s : Nat) (q1 q2 : List UInt8) : Nat → Value → World → Prop
  | 0, v, _ => v = .agg #[.int .i64 t.node, .int .i64 t.epoch, .int .i64 t.seq]
  | 1, v, _ => v = .string (bs (tidB t))
  | 2, v, _ => v = .pointer (some ⟨s + 1, 0, none⟩)
  | 3, v, _ => v = .slice A l.length c
  | 4, v, _ => v = .string (bs (itemsB l))
  | 5, v, _ => v = .string (bs q1)
  | 6, v, _ => v = .pointer (some ⟨s + 1, 1, none⟩)
  | 7, v, _ => v = .slice B ns.length d
  | 8, v, _ => v = .string (bs (nodesB ns))
  | 9, v, _ => v = .string (bs q2)
  | 10, v, _ => v = .string (bs q2)
  | _, _, _ => True
theorem bytesSum_later {t : Tid} {A B : Option Addr} {l : List It} {ns : List Int} {c d s : Nat} {q1 q2 : List UInt8} {j : Nat} {v : Value} {w w' : World} (_hb : Below w.heap.size w w') (h : bytesSum t A B l ns c d s q1 q2 j v w) : bytesSum t A B l ns c d s q1 q2 j v w' := by
  match j, h with
  | 0, h | 1, h | 2, h | 3, h | 4, h | 5, h | 6, h | 7, h | 8, h | 9, h | 10, h => exact h
  | _ + 11, _ => exact trivial
/-- While what was put is read again: which of name, items and nodes were read. -/
structure byI (p g : Nat) (t : Tid) (l : List It) (ns : List Int) (ml : List UInt8) (d1 d6 d13 : Bool) (v6 v13 : Value) (w0 w8 w : World) : Prop where
  it : IRd w p g (cond d13 (bs ml) (cond d6 (bs (nodesB ns ++ ml)) (cond d1 (bs (itemsB l ++ (nodesB ns ++ ml))) (bs (tidB t ++ (itemsB l ++ (nodesB ns ++ ml))))))) false
  low : Below w0.heap.size w0 w
  far : w0.heap.size ≤ p ∧ w0.heap.size ≤ g ∧ p < w8.heap.size ∧ g < w8.heap.size ∧ w8.heap.size ≤ w.heap.size
  r6 : d6 = true → w.ownsRow w8.heap.size 41 5 v6 l.length (flat l)
  r13 : d13 = true → w.ownsRow w8.heap.size 3 1 v13 ns.length (ns.map (Value.int .i64))
section
variable {p g : Nat} {t : Tid} {l : List It} {ns : List Int} {ml : List UInt8} {d1 d6 d13 : Bool} {v6 v13 : Value} {w0 w8 w w' : World}
theorem foot_low {B : Nat} {a b c : World} (h : Below B a b) (hf : Wire.Foot (some g) b c) (hg : B ≤ g) (hB : B ≤ b.heap.size) : Below B a c := h.trans (hf.below hB fun k hk => by
  have := Option.some.inj hk
  omega)
theorem row_mono {base base' : Nat} {e : TypeId} {size n : Nat} {v : Value} {xs : List Value} (h : w.ownsRow base e size v n xs) (hb : base' ≤ base) : w.ownsRow base' e size v n xs := ⟨h.1, h.2.imp_right fun ⟨g, cap, cur, h1, h2, r⟩ => ⟨g, cap, cur, h1, Nat.le_trans hb h2, r⟩⟩
theorem byI.tid (h : byI p g t l ns ml false false false v6 v13 w0 w8 w) (hi : IRd w' p g (bs (itemsB l ++ (nodesB ns ++ ml))) false) (hf : Wire.Foot (some g) w w') : byI p g t l ns ml true false false v6 v13 w0 w8 w' :=
  ⟨hi, foot_low h.low hf h.far.2.1 h.low.size, ⟨h.far.1, h.far.2.1, h.far.2.2.1, h.far.2.2.2.1, Nat.le_trans h.far.2.2.2.2 hf.size⟩, fun hd => (by cases hd), fun hd => (by cases hd)⟩
theorem byI.items {v : Value} (h : byI p g t l ns ml true false false v6 v13 w0 w8 w) (hv : w'.ownsRow w.heap.size 41 5 v l.length (flat l)) (hi : IRd w' p g (bs (nodesB ns ++ ml)) false) (hf : Wire.Foot (some g) w w') : byI p g t l ns ml true true false v v13 w0 w8 w' :=
  ⟨hi, foot_low h.low hf h.far.2.1 h.low.size, ⟨h.far.1, h.far.2.1, h.far.2.2.1, h.far.2.2.2.1, Nat.le_trans h.far.2.2.2.2 hf.size⟩, fun _ => row_mono hv h.far.2.2.2.2, fun hd => (by cases hd)⟩
theorem byI.nodes {v : Value} (h : byI p g t l ns ml true true false v6 v13 w0 w8 w) (hv : w'.ownsRow w.heap.size 3 1 v ns.length (ns.map (Value.int .i64))) (hi : IRd w' p g (bs ml) false) (hf : Wire.Foot (some g) w w') : byI p g t l ns ml true true true v6 v w0 w8 w' :=
  ⟨hi, foot_low h.low hf h.far.2.1 h.low.size, ⟨h.far.1, h.far.2.1, h.far.2.2.1, h.far.2.2.2.1, Nat.le_trans h.far.2.2.2.2 hf.size⟩, fun _ => row_only (h.r6 rfl) hf fun i hi e => by
    have := ((h.r6 rfl).lt i hi).1
    have := h.far.2.2.2.1
    have := Option.some.inj e
    omega, fun _ => row_mono hv h.far.2.2.2.2⟩
theorem byI.later (h : byI p g t l ns ml d1 d6 d13 v6 v13 w0 w8 w) (hb : Below w.heap.size w w') : byI p g t l ns ml d1 d6 d13 v6 v13 w0 w8 w' :=
  ⟨h.it.later hb, h.low.trans (hb.mono h.low.size), ⟨h.far.1, h.far.2.1, h.far.2.2.1, h.far.2.2.2.1, Nat.le_trans h.far.2.2.2.2 hb.size⟩, fun hd => row_only (S := fun _ => False) (h.r6 hd) (Only.of_below hb) fun _ _ e => e, fun hd => row_only (S := fun _ => False) (h.r13 hd) (Only.of_below hb) fun _ _ e => e⟩
end

theorem add_fact' (q p : List UInt8) (h : q.length + p.length ≤ 1000000) : bs q ++ bs p = bs (q ++ p) ∧ (bs q).size + (bs p).size ≤ 9223372036854775807 := ⟨bs_app q p, by rw [bs_size, bs_size]; omega⟩
set_option maxHeartbeats 4000000 in
theorem walk (t : Tid) (A B : Option Addr) (l : List It) (ns : List Int) (c d : Nat) (ml : List UInt8) (w : World) (ht : t.ok) (hi : Items w A l) (hio : ∀ x ∈ l, x.ok) (hn : Nums w B ns) (hno : ∀ x ∈ ns, I64 x) (hml : l.length ≤ maxLen) (hmn : ns.length ≤ maxLen):
    Calls Try.prog 5 #[t.val, .agg #[.slice A l.length c, .slice B ns.length d], .string (bs ml)] w fun e w' => e = .returned (.bool true) ∧ Below w.heap.size w w' := by
  unfold maxLen at hml hmn
  have hba := below_alloc w (.cells #[.int .i64 t.node, .int .i64 t.epoch, .int .i64 t.seq] 23)
  have hbc := hba.alloc hba.size (.cells #[.slice A l.length c, .slice B ns.length d] 27)
  have hca := (cells_new w 23 t.vals #[.int .i64 t.node, .int .i64 t.epoch, .int .i64 t.seq] rfl).later (below_alloc _ (.cells #[.slice A l.length c, .slice B ns.length d] 27))
  have hcc := cells_new (w.alloc (.cells #[.int .i64 t.node, .int .i64 t.epoch, .int .i64 t.seq] 23)) 27 [.slice A l.length c, .slice B ns.length d] #[.slice A l.length c, .slice B ns.length d] rfl
  rw [World.size_alloc] at hcc
  have HBC := Lib.hid hbc
  have HCA := Lib.hid hca
  have HCC := Lib.hid hcc
  have HIX := Lib.hid (hi.later hbc)
  have HNX := Lib.hid (hn.later hbc)
  have HOF : Hid (∀ g r, w.heap.size ≤ g → (∀ k, r = some k → w.heap.size ≤ k) → (0 < l.length → Off A g r) ∧ (0 < ns.length → Off B g r)) := Lib.hid fun g r hg hr => by
    refine ⟨fun h0 b off e => ?_, fun h0 b off e => ?_⟩
    · obtain ⟨b', off', e', hx⟩ := hi 0 h0
      rw [e] at e'
      have hb' : b = b' := by simpa using congrArg (fun o => o.map Addr.block) e'
      have := hx.lt
      refine ⟨by omega, fun e2 => ?_⟩
      have := hr b e2
      omega
    · have := hn.low h0 b off e
      refine ⟨by omega, fun e2 => ?_⟩
      have := hr b e2
      omega
  clear hba hbc hca hcc hi hn
  unfold Tid.val
  go_enter Try.func5, Try.ntmps5
  go_wp2_with fail
  refine (awake_any _).mono ?_
  rintro e w1 ⟨rfl, hb1⟩
  have HB1 := Lib.hid (HBC.out.trans (hb1.mono HBC.out.size))
  have HT1 := Lib.hid (HCA.out.later hb1)
  have HC1 := Lib.hid (HCC.out.later hb1)
  have HI1 := Lib.hid (HIX.out.later hb1)
  have HN1 := Lib.hid (HNX.out.later hb1)
  clear hb1
  have z0 := HC1.out.cell (j := 0) rfl
  have z1 := HC1.out.cell (j := 1) rfl
  by_cases h1 : 60 < l.length
  · go_wp2_with fail
    go_returns
    exact ⟨rfl, HB1.out⟩
  by_cases h2 : 60 < ns.length
  · go_wp2_with fail
    go_returns
    exact ⟨rfl, HB1.out⟩
  by_cases h3 : 1000 < (bs ml).size
  · go_wp2_with fail
    go_returns
    exact ⟨rfl, HB1.out⟩
  have HLI := Lib.hid (show l.length ≤ 1000 by omega)
  have HLN := Lib.hid (show ns.length ≤ 1000 by omega)
  have hb2 := below_alloc w1 (.cells #[.slice none 0 0, .bool false] 47)
  have HW2 := Lib.hid (wr_new' w1 w1.heap.size 47 (Nat.le_refl _))
  have HT2 := Lib.hid (HT1.out.later hb2)
  have HC2 := Lib.hid (HC1.out.later hb2)
  have HI2 := Lib.hid (HI1.out.later hb2)
  have HN2 := Lib.hid (HN1.out.later hb2)
  have HB2 := Lib.hid hb2
  have x0 := HT2.out.cell (j := 0) rfl
  have x1 := HT2.out.cell (j := 1) rfl
  have x2 := HT2.out.cell (j := 2) rfl
  clear hb2
  go_wp2_with fail
  refine (wTid_any t _ w1.heap.size w1.heap.size none _ HW2.out (by simp)).mono ?_
  rintro e w3 ⟨rfl, r3, hw3, ht3⟩
  have hw3' : Wr w3 w1.heap.size w1.heap.size r3 (some (tidB t)) := by simpa using hw3
  have HB3 : Hid (Below w1.heap.size w1 w3) := Lib.hid (HB2.out.trans (ht3.low (Nat.le_refl _) (fun k hk => by cases hk) HB2.out.size))
  have HW3 := Lib.hid hw3'
  have hc3 := HC1.out.later HB3.out
  have y0 := hc3.cell (j := 0) rfl
  clear hw3 ht3 hw3' x0 x1 x2 z0 z1 hc3
  go_wp2_with fail
  refine (wItems_any w3 w1.heap.size w1.heap.size r3 (some (tidB t)) l A c HW3.out (by show (tidB t).length ≤ _; rw [tidB_length]; decide) HLI.out (HI1.out.later HB3.out) (HOF.out _ _ HB1.out.size (fun k hk => Nat.le_trans HB1.out.size (HW3.out.own.2 k hk))).1).mono ?_
  rintro e w4 ⟨rfl, r4, hw4, ht4⟩
  have hw4' : Wr w4 w1.heap.size w1.heap.size r4 (some (tidB t ++ itemsB l)) := hw4
  have HB4 : Hid (Below w1.heap.size w1 w4) := Lib.hid (HB3.out.trans (ht4.low (Nat.le_refl _) HW3.out.own.2 HB3.out.size))
  have HW4 := Lib.hid hw4'
  have hc4 := HC1.out.later HB4.out
  have y1 := hc4.cell (j := 1) rfl
  clear hw4 ht4 hw4' hc4 y0
  have HLB : Hid ((itemsB l).length ≤ 1982 ∧ (nodesB ns).length ≤ 482) := Lib.hid ⟨by unfold itemsB; rw [List.length_append, big_length, flat_length]; omega, by unfold nodesB; rw [List.length_append, big_length, nums_length]; omega⟩
  go_wp2_with fail
  refine (wNodes_any w4 w1.heap.size w1.heap.size r4 (some (tidB t ++ itemsB l)) ns B d HW4.out (by show (tidB t ++ itemsB l).length ≤ _; rw [List.length_append, tidB_length]; have := HLB.out.1; omega) HLN.out (HN1.out.later HB4.out) (HOF.out _ _ HB1.out.size (fun k hk => Nat.le_trans HB1.out.size (HW4.out.own.2 k hk))).2).mono ?_
  rintro e w5 ⟨rfl, r5', hw5, ht5⟩
  have hw5' : Wr w5 w1.heap.size w1.heap.size r5' (some (tidB t ++ itemsB l ++ nodesB ns)) := hw5
  have HB5 : Hid (Below w1.heap.size w1 w5) := Lib.hid (HB4.out.trans (ht5.low (Nat.le_refl _) HW4.out.own.2 HB4.out.size))
  obtain ⟨q1, hq1⟩ : ∃ q1, q1 = tidB t ++ itemsB l := ⟨_, rfl⟩
  obtain ⟨q2, hq2⟩ : ∃ q2, q2 = q1 ++ nodesB ns := ⟨_, rfl⟩
  rw [← hq1, ← hq2] at hw5'
  have z1 : q1.length ≤ 2006 := by rw [hq1, List.length_append, tidB_length]; have := HLB.out.1; omega
  have z2 : q2.length ≤ 2488 := by rw [hq2, List.length_append]; have := HLB.out.2; omega
  have HP1 := Lib.hid (hq1 ▸ add_fact' (tidB t) (itemsB l) (by rw [tidB_length]; have := HLB.out.1; omega))
  have HP2 := Lib.hid (hq2 ▸ add_fact' q1 (nodesB ns) (by have := HLB.out.2; omega))
  have HQ1 := Lib.hid hq1
  have HQ2 := Lib.hid hq2
  clear hq1 hq2
  have HW5 := Lib.hid hw5'
  have HT5 := Lib.hid (HT1.out.later HB5.out)
  have HC5 := Lib.hid (HC1.out.later HB5.out)
  have HI5 := Lib.hid (HI1.out.later HB5.out)
  have HN5 := Lib.hid (HN1.out.later HB5.out)
  clear hw5 ht5 hw5' y1
  go_wp2_with fail
  refine Reg.region_heavy (by kernel_rfl) 10 [10] (bytesSum t A B l ns c d w.heap.size q1 q2) (fun a => Below w5.heap.size w5 a) (fun a => Below w5.heap.size w5 a) (fun V => [(some 38, V 0), (some 39, V 1), (some 40, V 2), (some 41, V 3), (some 42, V 4), (some 43, V 5), (some 44, V 6), (some 45, V 7), (some 46, V 8), (some 47, V 9), (some 8, V 10)]) (by kernel_rfl) (by kernel_rfl) (by kernel_rfl) (fun V => rfl) ?_ ?_ ?_
  · exact (Below.refl _ _).drew
  · intro i o ho
    have hi : i < 11 := (Array.getElem?_eq_some_iff.1 ho).1
    rcases i with _ | _ | _ | _ | _ | _ | _ | _ | _ | _ | _ | i
    · obtain rfl := Option.some.inj ho
      intro ρ wi hE hI hs hd
      replace hI : (fun a => Below w5.heap.size w5 a) wi := hI
      have e3 : ρ (.tmp 3) = .pointer (some ⟨w.heap.size, 0, none⟩) := hs 3 (by kernel_rfl)
      have ha := HT5.out.later hI
      have x0 := ha.cell (j := 0) rfl
      have x1 := ha.cell (j := 1) rfl
      have x2 := ha.cell (j := 2) rfl
      exact Reg.Gives.value (v := .agg #[.int .i64 t.node, .int .i64 t.epoch, .int .i64 t.seq]) (w' := wi) (by go_simp) (Reg.OwedH.same hI rfl)
    · obtain rfl := Option.some.inj ho
      intro ρ wi hE hI hs hd
      replace hI : (fun a => Below w5.heap.size w5 a) wi := hI
      obtain ⟨u38, g38, e38⟩ := hd 0 38 (by kernel_rfl) (by kernel_rfl) (by show _ < 143; decide)
      obtain rfl : u38 = .agg #[.int .i64 t.node, .int .i64 t.epoch, .int .i64 t.seq] := g38
      have hf := hE.func
      refine Reg.Gives.call (f := 24) (args := #[.agg #[.int .i64 t.node, .int .i64 t.epoch, .int .i64 t.seq]]) (w' := wi) (by go_simp) ?_
      refine (refTid_any t wi).mono ?_
      rintro e w'' ⟨rfl, hbb⟩
      exact ⟨_, rfl, ⟨rfl, hI.trans (hbb.mono hI.size), fun j u _ _ h => bytesSum_later hbb h⟩⟩
    · obtain rfl := Option.some.inj ho
      intro ρ wi hE hI hs hd
      replace hI : (fun a => Below w5.heap.size w5 a) wi := hI
      have e4 : ρ (.tmp 4) = .pointer (some ⟨w.heap.size + 1, 0, none⟩) := hs 4 (by kernel_rfl)
      exact Reg.Gives.value (v := .pointer (some ⟨w.heap.size + 1, 0, none⟩)) (w' := wi) (by go_simp) (Reg.OwedH.same hI rfl)
    · obtain rfl := Option.some.inj ho
      intro ρ wi hE hI hs hd
      replace hI : (fun a => Below w5.heap.size w5 a) wi := hI
      obtain ⟨u40, g40, e40⟩ := hd 2 40 (by kernel_rfl) (by kernel_rfl) (by show _ < 143; decide)
      obtain rfl : u40 = .pointer (some ⟨w.heap.size + 1, 0, none⟩) := g40
      have ha := HC5.out.later hI
      have x0 := ha.cell (j := 0) rfl
      exact Reg.Gives.value (v := .slice A l.length c) (w' := wi) (by go_simp) (Reg.OwedH.same hI rfl)
    · obtain rfl := Option.some.inj ho
      intro ρ wi hE hI hs hd
      replace hI : (fun a => Below w5.heap.size w5 a) wi := hI
      obtain ⟨u41, g41, e41⟩ := hd 3 41 (by kernel_rfl) (by kernel_rfl) (by show _ < 143; decide)
      obtain rfl : u41 = .slice A l.length c := g41
      have hf := hE.func
      refine Reg.Gives.call (f := 25) (args := #[.slice A l.length c]) (w' := wi) (by go_simp) ?_
      refine (refItems_any A l c wi (HI5.out.later hI) HLI.out).mono ?_
      rintro e w'' ⟨rfl, hbb⟩
      exact ⟨_, rfl, ⟨rfl, hI.trans (hbb.mono hI.size), fun j u _ _ h => bytesSum_later hbb h⟩⟩
    · obtain rfl := Option.some.inj ho
      intro ρ wi hE hI hs hd
      replace hI : (fun a => Below w5.heap.size w5 a) wi := hI
      obtain ⟨u39, g39, e39⟩ := hd 1 39 (by kernel_rfl) (by kernel_rfl) (by show _ < 143; decide)
      obtain rfl : u39 = .string (bs (tidB t)) := g39
      obtain ⟨u42, g42, e42⟩ := hd 4 42 (by kernel_rfl) (by kernel_rfl) (by show _ < 143; decide)
      obtain rfl : u42 = .string (bs (itemsB l)) := g42
      have hap := HP1.out.1
      have hl := HP1.out.2
      exact Reg.Gives.value (v := .string (bs q1)) (w' := wi) (by go_simp) (Reg.OwedH.same hI rfl)
    · obtain rfl := Option.some.inj ho
      intro ρ wi hE hI hs hd
      replace hI : (fun a => Below w5.heap.size w5 a) wi := hI
      have e4 : ρ (.tmp 4) = .pointer (some ⟨w.heap.size + 1, 0, none⟩) := hs 4 (by kernel_rfl)
      exact Reg.Gives.value (v := .pointer (some ⟨w.heap.size + 1, 1, none⟩)) (w' := wi) (by go_simp) (Reg.OwedH.same hI rfl)
    · obtain rfl := Option.some.inj ho
      intro ρ wi hE hI hs hd
      replace hI : (fun a => Below w5.heap.size w5 a) wi := hI
      obtain ⟨u44, g44, e44⟩ := hd 6 44 (by kernel_rfl) (by kernel_rfl) (by show _ < 143; decide)
      obtain rfl : u44 = .pointer (some ⟨w.heap.size + 1, 1, none⟩) := g44
      have ha := HC5.out.later hI
      have x1 := ha.cell (j := 1) rfl
      exact Reg.Gives.value (v := .slice B ns.length d) (w' := wi) (by go_simp) (Reg.OwedH.same hI rfl)
    · obtain rfl := Option.some.inj ho
      intro ρ wi hE hI hs hd
      replace hI : (fun a => Below w5.heap.size w5 a) wi := hI
      obtain ⟨u45, g45, e45⟩ := hd 7 45 (by kernel_rfl) (by kernel_rfl) (by show _ < 143; decide)
      obtain rfl : u45 = .slice B ns.length d := g45
      have hf := hE.func
      refine Reg.Gives.call (f := 26) (args := #[.slice B ns.length d]) (w' := wi) (by go_simp) ?_
      refine (refNodes_any B ns d wi (HN5.out.later hI) HLN.out).mono ?_
      rintro e w'' ⟨rfl, hbb⟩
      exact ⟨_, rfl, ⟨rfl, hI.trans (hbb.mono hI.size), fun j u _ _ h => bytesSum_later hbb h⟩⟩
    · obtain rfl := Option.some.inj ho
      intro ρ wi hE hI hs hd
      replace hI : (fun a => Below w5.heap.size w5 a) wi := hI
      obtain ⟨u43, g43, e43⟩ := hd 5 43 (by kernel_rfl) (by kernel_rfl) (by show _ < 143; decide)
      obtain rfl : u43 = .string (bs q1) := g43
      obtain ⟨u46, g46, e46⟩ := hd 8 46 (by kernel_rfl) (by kernel_rfl) (by show _ < 143; decide)
      obtain rfl : u46 = .string (bs (nodesB ns)) := g46
      have hap := HP2.out.1
      have hl := HP2.out.2
      exact Reg.Gives.value (v := .string (bs q2)) (w' := wi) (by go_simp) (Reg.OwedH.same hI rfl)
    · obtain rfl := Option.some.inj ho
      intro ρ wi hE hI hs hd
      replace hI : (fun a => Below w5.heap.size w5 a) wi := hI
      obtain ⟨u47, g47, e47⟩ := hd 9 47 (by kernel_rfl) (by kernel_rfl) (by show _ < 143; decide)
      obtain rfl : u47 = .string (bs q2) := g47
      exact Reg.Gives.value (v := .string (bs q2)) (w' := wi) (by go_simp) (Reg.OwedH.same hI rfl)
    · omega
  · intro V w6 hV hI
    have hV10 : V 10 = .string (bs q2) := hV 10 (by decide) rfl
    simp only [Reg.putsO, List.foldl_cons, List.foldl_nil, Act.put, List.setIfInBounds_toArray, List.set_cons_succ, List.set_cons_zero, hV10]
    replace hI : (fun a => Below w5.heap.size w5 a) w6 := hI
    clear hV hV10
    have HB6 := Lib.hid (HB5.out.trans (hI.mono HB5.out.size))
    have HW6 := Lib.hid (HW5.out.later hI)
    clear hI
    go_wp2_with fail
    refine (string_any _ _ _ _ _ HW6.out).mono ?_
    rintro e w7 ⟨rfl, rfl⟩
    rw [show (ByteArray.mk ((some q2).getD []).toArray) = bs q2 from rfl]
    go_wp2_with fail
    refine (bad_any _ _ _ _ _ HW6.out).mono ?_
    rintro e w7 ⟨rfl, rfl⟩
    rw [Option.isNone_some]
    obtain ⟨q3, hq3⟩ : ∃ q3, q3 = q2 ++ ml := ⟨_, rfl⟩
    have hmll : ml.length ≤ 1000 := by rw [bs_size] at h3; omega
    have hc6 := HC1.out.later HB6.out
    have y0 := hc6.cell (j := 0) rfl
    have y1 := hc6.cell (j := 1) rfl
    clear hc6
    by_cases h4 : 16 < l.length
    · have := h4
      have HQ3 : Hid (q3 = tidB t ++ (itemsB l ++ (nodesB ns ++ ml))) := Lib.hid (by rw [hq3, HQ2.out, HQ1.out]; simp)
      have HP3 := Lib.hid (hq3 ▸ add_fact' q2 ml (by omega))
      have HS3 : Hid ((bs q3).size ≤ 140737488355328) := Lib.hid (by rw [hq3, bs_size, List.length_append]; omega)
      have hap := HP3.out.1
      have hl3 := HP3.out.2
      clear hq3
      go_wp2_with fail
      refine (inew_any w6 (bs q3) HS3.out).mono ?_
      rintro e w7 ⟨p, g, rfl, hi7, hp7, hg7, hb7⟩
      rw [HQ3.out] at hi7
      have HB7 := Lib.hid (HB6.out.trans (hb7.mono HB6.out.size))
      have HPG : Hid (w1.heap.size ≤ p ∧ w1.heap.size ≤ g) := Lib.hid ⟨Nat.le_trans HB6.out.size hp7, Nat.le_trans HB6.out.size hg7⟩
      have HI7 := Lib.hid hi7
      have HRT := Lib.hid (read_tidB ht (itemsB l ++ (nodesB ns ++ ml)))
      clear hi7 hp7 hg7 hb7 hap hl3 y0 y1
      go_wp2_with fail
      refine (rTid_any w7 p g _ _ HI7.out).mono ?_
      rintro e w8 ⟨rfl, hi8, hf8⟩
      rw [HRT.out.2.1, HRT.out.2.2] at hi8
      have HI8 := Lib.hid hi8
      have HB8 := Lib.hid (foot_low HB7.out hf8 HPG.out.2 HB7.out.size)
      clear hi8 hf8
      go_wp2_with fail
      refine (rItems_any w8 p g _ _ HI8.out).mono ?_
      rintro e w9 ⟨v9, rfl, hv9, hi9, hf9⟩
      have HRI := Lib.hid (read_items_many (l := l) (nodesB ns ++ ml) h4 (by omega))
      rw [HRI.out.1] at hv9
      rw [HRI.out.2.1, HRI.out.2.2] at hi9
      obtain ⟨X, cx, rfl, _⟩ := items_of_row hv9
      have HRN := Lib.hid read_nodes_nil
      have HI9 := Lib.hid hi9
      have HB9 := Lib.hid (foot_low HB8.out hf9 HPG.out.2 HB8.out.size)
      clear hi9 hf9 hv9
      go_wp2_with fail
      refine (rNodes_any w9 p g _ _ HI9.out).mono ?_
      rintro e wa ⟨va, rfl, hva, hia, hfa⟩
      rw [HRN.out.1] at hva
      rw [HRN.out.2.1, HRN.out.2.2] at hia
      obtain ⟨Y, cy, rfl, _⟩ := nums_of_row hva
      have HBA := Lib.hid (foot_low HB9.out hfa HPG.out.2 HB9.out.size)
      have HLF := Lib.hid (left_any wa (some g) _ _ hia.rd)
      have HEN := Lib.hid (end_any wa (some g) _ _ hia.rd)
      have hcp := hia.cell
      have hcA := HC1.out.later HBA.out
      have y0 := hcA.cell (j := 0) rfl
      have y1 := hcA.cell (j := 1) rfl
      clear hia hfa hva hcA
      go_wp2_with fail
      refine HLF.out.mono ?_
      rintro e wb ⟨rfl, rfl⟩
      rw [show ((nil.size : Nat) : Int) = 0 from rfl]
      go_wp2_with fail
      refine HEN.out.mono ?_
      rintro e wb ⟨rfl, rfl⟩
      rw [show endV nil true = 2 from rfl]
      go_wp2_with fail
      go_returns
      exact ⟨rfl, HB1.out.trans (HBA.out.mono HB1.out.size)⟩
    · by_cases h5 : 16 < ns.length
      · have := h5
        have HQ3 : Hid (q3 = tidB t ++ (itemsB l ++ (nodesB ns ++ ml))) := Lib.hid (by rw [hq3, HQ2.out, HQ1.out]; simp)
        have HP3 := Lib.hid (hq3 ▸ add_fact' q2 ml (by omega))
        have HS3 : Hid ((bs q3).size ≤ 140737488355328) := Lib.hid (by rw [hq3, bs_size, List.length_append]; omega)
        have hap := HP3.out.1
        have hl3 := HP3.out.2
        clear hq3
        go_wp2_with fail
        refine (inew_any w6 (bs q3) HS3.out).mono ?_
        rintro e w7 ⟨p, g, rfl, hi7, hp7, hg7, hb7⟩
        rw [HQ3.out] at hi7
        have HB7 := Lib.hid (HB6.out.trans (hb7.mono HB6.out.size))
        have HPG : Hid (w1.heap.size ≤ p ∧ w1.heap.size ≤ g) := Lib.hid ⟨Nat.le_trans HB6.out.size hp7, Nat.le_trans HB6.out.size hg7⟩
        have HI7 := Lib.hid hi7
        have HRT := Lib.hid (read_tidB ht (itemsB l ++ (nodesB ns ++ ml)))
        clear hi7 hp7 hg7 hb7 hap hl3 y0 y1
        go_wp2_with fail
        refine (rTid_any w7 p g _ _ HI7.out).mono ?_
        rintro e w8 ⟨rfl, hi8, hf8⟩
        rw [HRT.out.2.1, HRT.out.2.2] at hi8
        have HI8 := Lib.hid hi8
        have HB8 := Lib.hid (foot_low HB7.out hf8 HPG.out.2 HB7.out.size)
        clear hi8 hf8
        go_wp2_with fail
        refine (rItems_any w8 p g _ _ HI8.out).mono ?_
        rintro e w9 ⟨v9, rfl, hv9, hi9, hf9⟩
        have HRI := Lib.hid (read_items (l := l) (nodesB ns ++ ml) hio (by omega))
        rw [HRI.out.1] at hv9
        rw [HRI.out.2.1, HRI.out.2.2] at hi9
        obtain ⟨X, cx, rfl, _⟩ := items_of_row hv9
        have HRN := Lib.hid (read_nodes_many (l := ns) ml h5 (by omega))
        have HI9 := Lib.hid hi9
        have HB9 := Lib.hid (foot_low HB8.out hf9 HPG.out.2 HB8.out.size)
        clear hi9 hf9 hv9
        go_wp2_with fail
        refine (rNodes_any w9 p g _ _ HI9.out).mono ?_
        rintro e wa ⟨va, rfl, hva, hia, hfa⟩
        rw [HRN.out.1] at hva
        rw [HRN.out.2.1, HRN.out.2.2] at hia
        obtain ⟨Y, cy, rfl, _⟩ := nums_of_row hva
        have HBA := Lib.hid (foot_low HB9.out hfa HPG.out.2 HB9.out.size)
        have HLF := Lib.hid (left_any wa (some g) _ _ hia.rd)
        have HEN := Lib.hid (end_any wa (some g) _ _ hia.rd)
        have hcp := hia.cell
        have hcA := HC1.out.later HBA.out
        have y0 := hcA.cell (j := 0) rfl
        have y1 := hcA.cell (j := 1) rfl
        clear hia hfa hva hcA
        go_wp2_with fail
        refine HLF.out.mono ?_
        rintro e wb ⟨rfl, rfl⟩
        rw [show ((nil.size : Nat) : Int) = 0 from rfl]
        go_wp2_with fail
        refine HEN.out.mono ?_
        rintro e wb ⟨rfl, rfl⟩
        rw [show endV nil true = 2 from rfl]
        go_wp2_with fail
        go_returns
        exact ⟨rfl, HB1.out.trans (HBA.out.mono HB1.out.size)⟩
      · have HQ3 : Hid (q3 = tidB t ++ (itemsB l ++ (nodesB ns ++ ml))) := Lib.hid (by rw [hq3, HQ2.out, HQ1.out]; simp)
        have HP3 := Lib.hid (hq3 ▸ add_fact' q2 ml (by omega))
        have HS3 : Hid ((bs q3).size ≤ 140737488355328) := Lib.hid (by rw [hq3, bs_size, List.length_append]; omega)
        have hap := HP3.out.1
        have hl3 := HP3.out.2
        clear hq3
        go_wp2_with fail
        refine (inew_any w6 (bs q3) HS3.out).mono ?_
        rintro e w8 ⟨p, g, rfl, hi7, hp7, hg7, hb7⟩
        rw [HQ3.out] at hi7
        have HRT := Lib.hid (read_tidB ht (itemsB l ++ (nodesB ns ++ ml)))
        have HRI := Lib.hid (read_items (l := l) (nodesB ns ++ ml) hio (by omega))
        have HRN := Lib.hid (read_nodes (l := ns) ml hno (by omega))
        have hlt8 := hi7.lt
        have HB0 : Hid (∀ V : Nat → Value, byI p g t l ns ml false false false (V 6) (V 13) w6 w8 w8.drew) := Lib.hid fun V =>
          ⟨hi7.later (Below.refl _ _).drew, hb7.drew, ⟨hp7, hg7, hlt8.1, hlt8.2, Nat.le_refl _⟩, fun hd => (by cases hd), fun hd => (by cases hd)⟩
        have HT0 := Lib.hid (HT1.out.later HB6.out)
        have HC0 := Lib.hid (HC1.out.later HB6.out)
        have HI0 := Lib.hid (HI1.out.later HB6.out)
        have HN0 := Lib.hid (HN1.out.later HB6.out)
        clear hi7 hp7 hg7 hb7 hap hl3 hlt8
        go_wp2_with fail
        refine Reg.region_inv (by kernel_rfl) (fun i => ([some (.pointer (some ⟨p, 0, none⟩)), some (.agg #[.int .i64 t.node, .int .i64 t.epoch, .int .i64 t.seq]), some (.agg #[.int .i64 t.node, .int .i64 t.epoch, .int .i64 t.seq]), some (.bool true), some (.bool true), some (.pointer (some ⟨p, 0, none⟩)), none, some (.pointer (some ⟨w.heap.size + 1, 0, none⟩)), some (.slice A l.length c), some (.bool true), some (.bool true), some (.bool true), some (.pointer (some ⟨p, 0, none⟩)), none, some (.pointer (some ⟨w.heap.size + 1, 1, none⟩)), some (.slice B ns.length d), some (.bool true), some (.bool true), some (.bool true), some (.pointer (some ⟨p, 0, none⟩)), some (.pointer (some ⟨p, 0, none⟩)), some (.pointer (some ⟨p, 0, none⟩)), some (.pointer (some ⟨g, 0, none⟩)), some (.int .i64 ((bs ml).size : Int)), some (.string (bs ml)), some (.int .i64 ((bs ml).size : Int)), some (.bool true), some (.bool true), some (.bool true)] : List (Option Value)).getD i none) (fun D V W => byI p g t l ns ml (D 1) (D 6) (D 13) (V 6) (V 13) w6 w8 W) (fun V => [(some 115, V 0), (some 116, V 1), (some 117, V 2), (some 118, V 3), (some 119, V 4), (some 120, V 5), (some 121, V 6), (some 122, V 7), (some 123, V 8), (some 124, V 9), (some 125, V 10), (some 126, V 11), (some 127, V 12), (some 128, V 13), (some 129, V 14), (some 130, V 15), (some 131, V 16), (some 132, V 17), (some 133, V 18), (some 134, V 19), (some 135, V 20), (some 136, V 21), (some 137, V 22), (some 138, V 23), (some 139, V 24), (some 140, V 25), (some 141, V 26), (some 142, V 27), (some 6, V 28)]) (by kernel_rfl) (by kernel_rfl) (fun V => rfl) ?_ ?_ ?_
        · intro V
          exact HB0.out V
        · intro i o ho
          have hi : i < 29 := (Array.getElem?_eq_some_iff.1 ho).1
          rcases i with _ | _ | _ | _ | _ | _ | _ | _ | _ | _ | _ | _ | _ | _ | _ | _ | _ | _ | _ | _ | _ | _ | _ | _ | _ | _ | _ | _ | _ | i
          · obtain rfl := Option.some.inj ho
            intro D V ρ wi hE hI hDi hT hF hs hd hk
            replace hI : byI p g t l ns ml (D 1) (D 6) (D 13) (V 6) (V 13) w6 w8 wi := hI
            have e12 : ρ (.tmp 12) = .pointer (some ⟨p, 0, none⟩) := hs 12 (by kernel_rfl)
            clear hT hF hk
            exact Reg.Gives.value (v := .pointer (some ⟨p, 0, none⟩)) (w' := wi) (by go_simp) ⟨fun x h => Option.some.inj h, hI⟩
          · obtain rfl := Option.some.inj ho
            intro D V ρ wi hE hI hDi hT hF hs hd hk
            replace hI : byI p g t l ns ml (D 1) (D 6) (D 13) (V 6) (V 13) w6 w8 wi := hI
            have e115 : ρ (.tmp 115) = .pointer (some ⟨p, 0, none⟩) := (hd 0 115 (by kernel_rfl) (by kernel_rfl) (by show _ < 143; decide)).trans (hk 0 (by kernel_rfl) _ rfl)
            have hf := hE.func
            have hD1 : D 1 = false := hDi
            have hD6 : D 6 = false := hF 2 6 (by show _ < 29; decide) (by kernel_rfl)
            have hD13 : D 13 = false := hF 4 13 (by show _ < 29; decide) (by kernel_rfl)
            clear hT hF
            rw [hD1, hD6, hD13] at hI
            refine Reg.Gives.call (f := 30) (args := #[.pointer (some ⟨p, 0, none⟩)]) (w' := wi) (by go_simp) ?_
            have hir := hI.it
            simp only [cond_false] at hir
            refine (rTid_any wi p g _ _ hir).mono ?_
            rintro e w'' ⟨rfl, hi', hf'⟩
            rw [HRT.out.1]
            rw [HRT.out.2.1, HRT.out.2.2] at hi'
            refine ⟨_, rfl, fun x h => Option.some.inj h, ?_⟩
            show byI p g t l ns ml true (D 6) (D 13) (V 6) (V 13) w6 w8 w''
            rw [hD6, hD13]
            exact hI.tid hi' hf'
          · obtain rfl := Option.some.inj ho
            intro D V ρ wi hE hI hDi hT hF hs hd hk
            replace hI : byI p g t l ns ml (D 1) (D 6) (D 13) (V 6) (V 13) w6 w8 wi := hI
            have e3 : ρ (.tmp 3) = .pointer (some ⟨w.heap.size, 0, none⟩) := hs 3 (by kernel_rfl)
            clear hT hF hk
            have ha := HT0.out.later hI.low
            have x0 := ha.cell (j := 0) rfl
            have x1 := ha.cell (j := 1) rfl
            have x2 := ha.cell (j := 2) rfl
            exact Reg.Gives.value (v := .agg #[.int .i64 t.node, .int .i64 t.epoch, .int .i64 t.seq]) (w' := wi) (by go_simp) ⟨fun x h => Option.some.inj h, hI⟩
          · obtain rfl := Option.some.inj ho
            intro D V ρ wi hE hI hDi hT hF hs hd hk
            replace hI : byI p g t l ns ml (D 1) (D 6) (D 13) (V 6) (V 13) w6 w8 wi := hI
            have e116 : ρ (.tmp 116) = .agg #[.int .i64 t.node, .int .i64 t.epoch, .int .i64 t.seq] := (hd 1 116 (by kernel_rfl) (by kernel_rfl) (by show _ < 143; decide)).trans (hk 1 (by kernel_rfl) _ rfl)
            have e117 : ρ (.tmp 117) = .agg #[.int .i64 t.node, .int .i64 t.epoch, .int .i64 t.seq] := (hd 2 117 (by kernel_rfl) (by kernel_rfl) (by show _ < 143; decide)).trans (hk 2 (by kernel_rfl) _ rfl)
            clear hT hF hk
            exact Reg.Gives.value (v := .bool true) (w' := wi) (by go_simp) ⟨fun x h => Option.some.inj h, hI⟩
          · obtain rfl := Option.some.inj ho
            intro D V ρ wi hE hI hDi hT hF hs hd hk
            replace hI : byI p g t l ns ml (D 1) (D 6) (D 13) (V 6) (V 13) w6 w8 wi := hI
            have e118 : ρ (.tmp 118) = .bool true := (hd 3 118 (by kernel_rfl) (by kernel_rfl) (by show _ < 143; decide)).trans (hk 3 (by kernel_rfl) _ rfl)
            clear hT hF hk
            exact Reg.Gives.value (v := .bool true) (w' := wi) (by go_simp) ⟨fun x h => Option.some.inj h, hI⟩
          · obtain rfl := Option.some.inj ho
            intro D V ρ wi hE hI hDi hT hF hs hd hk
            replace hI : byI p g t l ns ml (D 1) (D 6) (D 13) (V 6) (V 13) w6 w8 wi := hI
            have e12 : ρ (.tmp 12) = .pointer (some ⟨p, 0, none⟩) := hs 12 (by kernel_rfl)
            have hgd : V 4 = .bool true := hk 4 (by kernel_rfl) _ rfl
            refine ⟨fun _ => ?_, fun h => absurd hgd h⟩
            clear hT hF hk
            exact Reg.Gives.value (v := .pointer (some ⟨p, 0, none⟩)) (w' := wi) (by go_simp) ⟨fun x h => Option.some.inj h, hI⟩
          · obtain rfl := Option.some.inj ho
            intro D V ρ wi hE hI hDi hT hF hs hd hk
            replace hI : byI p g t l ns ml (D 1) (D 6) (D 13) (V 6) (V 13) w6 w8 wi := hI
            have e120 : ρ (.tmp 120) = .pointer (some ⟨p, 0, none⟩) := (hd 5 120 (by kernel_rfl) (by kernel_rfl) (by show _ < 143; decide)).trans (hk 5 (by kernel_rfl) _ rfl)
            have hf := hE.func
            have hgd : V 4 = .bool true := hk 4 (by kernel_rfl) _ rfl
            refine ⟨fun _ => ?_, fun h => absurd hgd h⟩
            have hD1 : D 1 = true := hT 2 1 (by kernel_rfl)
            have hD6 : D 6 = false := hDi
            have hD13 : D 13 = false := hF 3 13 (by show _ < 29; decide) (by kernel_rfl)
            clear hT hF
            rw [hD1, hD6, hD13] at hI
            refine Reg.Gives.call (f := 31) (args := #[.pointer (some ⟨p, 0, none⟩)]) (w' := wi) (by go_simp) ?_
            have hir := hI.it
            simp only [cond_false, cond_true] at hir
            refine (rItems_any wi p g _ _ hir).mono ?_
            rintro e w'' ⟨v, rfl, hv, hi', hf'⟩
            rw [HRI.out.1] at hv
            rw [HRI.out.2.1, HRI.out.2.2] at hi'
            refine ⟨_, rfl, fun x h => (by cases h), ?_⟩
            show byI p g t l ns ml (D 1) true (D 13) v (V 13) w6 w8 w''
            rw [hD1, hD13]
            exact hI.items hv hi' hf'
          · obtain rfl := Option.some.inj ho
            intro D V ρ wi hE hI hDi hT hF hs hd hk
            replace hI : byI p g t l ns ml (D 1) (D 6) (D 13) (V 6) (V 13) w6 w8 wi := hI
            have e4 : ρ (.tmp 4) = .pointer (some ⟨w.heap.size + 1, 0, none⟩) := hs 4 (by kernel_rfl)
            have hgd : V 4 = .bool true := hk 4 (by kernel_rfl) _ rfl
            refine ⟨fun _ => ?_, fun h => absurd hgd h⟩
            clear hT hF hk
            exact Reg.Gives.value (v := .pointer (some ⟨w.heap.size + 1, 0, none⟩)) (w' := wi) (by go_simp) ⟨fun x h => Option.some.inj h, hI⟩
          · obtain rfl := Option.some.inj ho
            intro D V ρ wi hE hI hDi hT hF hs hd hk
            replace hI : byI p g t l ns ml (D 1) (D 6) (D 13) (V 6) (V 13) w6 w8 wi := hI
            have e122 : ρ (.tmp 122) = .pointer (some ⟨w.heap.size + 1, 0, none⟩) := (hd 7 122 (by kernel_rfl) (by kernel_rfl) (by show _ < 143; decide)).trans (hk 7 (by kernel_rfl) _ rfl)
            have hgd : V 4 = .bool true := hk 4 (by kernel_rfl) _ rfl
            refine ⟨fun _ => ?_, fun h => absurd hgd h⟩
            clear hT hF hk
            have ha := HC0.out.later hI.low
            have x0 := ha.cell (j := 0) rfl
            exact Reg.Gives.value (v := .slice A l.length c) (w' := wi) (by go_simp) ⟨fun x h => Option.some.inj h, hI⟩
          · obtain rfl := Option.some.inj ho
            intro D V ρ wi hE hI hDi hT hF hs hd hk
            replace hI : byI p g t l ns ml (D 1) (D 6) (D 13) (V 6) (V 13) w6 w8 wi := hI
            have e121 : ρ (.tmp 121) = V 6 := hd 6 121 (by kernel_rfl) (by kernel_rfl) (by show _ < 143; decide)
            have e123 : ρ (.tmp 123) = .slice A l.length c := (hd 8 123 (by kernel_rfl) (by kernel_rfl) (by show _ < 143; decide)).trans (hk 8 (by kernel_rfl) _ rfl)
            have hf := hE.func
            have hgd : V 4 = .bool true := hk 4 (by kernel_rfl) _ rfl
            refine ⟨fun _ => ?_, fun h => absurd hgd h⟩
            have hD1 : D 1 = true := hT 2 1 (by kernel_rfl)
            have hD6 : D 6 = true := hT 1 6 (by kernel_rfl)
            have hD13 : D 13 = false := hF 2 13 (by show _ < 29; decide) (by kernel_rfl)
            clear hT hF
            rw [hD6] at hI
            obtain ⟨X, cx, hvx, hix⟩ := items_of_row (hI.r6 rfl)
            rw [hvx] at e121
            refine Reg.Gives.call (f := 18) (args := #[.slice X l.length cx, .slice A l.length c]) (w' := wi) (by go_simp) ?_
            refine (sameItems_any X A l l cx c wi hix (HI0.out.later hI.low) (by have := HLI.out; omega)).mono ?_
            rintro e w'' ⟨rfl, hbb⟩
            rw [decide_eq_true (rfl : l = l)]
            refine ⟨_, rfl, fun x h => Option.some.inj h, ?_⟩
            show byI p g t l ns ml (D 1) (D 6) (D 13) (V 6) (V 13) w6 w8 w''
            rw [hD6]
            exact hI.later hbb
          · obtain rfl := Option.some.inj ho
            intro D V ρ wi hE hI hDi hT hF hs hd hk
            replace hI : byI p g t l ns ml (D 1) (D 6) (D 13) (V 6) (V 13) w6 w8 wi := hI
            have e119 : ρ (.tmp 119) = .bool true := (hd 4 119 (by kernel_rfl) (by kernel_rfl) (by show _ < 143; decide)).trans (hk 4 (by kernel_rfl) _ rfl)
            have e124 : ρ (.tmp 124) = .bool true := (hd 9 124 (by kernel_rfl) (by kernel_rfl) (by show _ < 143; decide)).trans (hk 9 (by kernel_rfl) _ rfl)
            have hc := hE.const
            clear hT hF hk
            exact Reg.Gives.value (v := .bool true) (w' := wi) (by go_simp) ⟨fun x h => Option.some.inj h, hI⟩
          · obtain rfl := Option.some.inj ho
            intro D V ρ wi hE hI hDi hT hF hs hd hk
            replace hI : byI p g t l ns ml (D 1) (D 6) (D 13) (V 6) (V 13) w6 w8 wi := hI
            have e125 : ρ (.tmp 125) = .bool true := (hd 10 125 (by kernel_rfl) (by kernel_rfl) (by show _ < 143; decide)).trans (hk 10 (by kernel_rfl) _ rfl)
            clear hT hF hk
            exact Reg.Gives.value (v := .bool true) (w' := wi) (by go_simp) ⟨fun x h => Option.some.inj h, hI⟩
          · obtain rfl := Option.some.inj ho
            intro D V ρ wi hE hI hDi hT hF hs hd hk
            replace hI : byI p g t l ns ml (D 1) (D 6) (D 13) (V 6) (V 13) w6 w8 wi := hI
            have e12 : ρ (.tmp 12) = .pointer (some ⟨p, 0, none⟩) := hs 12 (by kernel_rfl)
            have hgd : V 11 = .bool true := hk 11 (by kernel_rfl) _ rfl
            refine ⟨fun _ => ?_, fun h => absurd hgd h⟩
            clear hT hF hk
            exact Reg.Gives.value (v := .pointer (some ⟨p, 0, none⟩)) (w' := wi) (by go_simp) ⟨fun x h => Option.some.inj h, hI⟩
          · obtain rfl := Option.some.inj ho
            intro D V ρ wi hE hI hDi hT hF hs hd hk
            replace hI : byI p g t l ns ml (D 1) (D 6) (D 13) (V 6) (V 13) w6 w8 wi := hI
            have e127 : ρ (.tmp 127) = .pointer (some ⟨p, 0, none⟩) := (hd 12 127 (by kernel_rfl) (by kernel_rfl) (by show _ < 143; decide)).trans (hk 12 (by kernel_rfl) _ rfl)
            have hf := hE.func
            have hgd : V 11 = .bool true := hk 11 (by kernel_rfl) _ rfl
            refine ⟨fun _ => ?_, fun h => absurd hgd h⟩
            have hD1 : D 1 = true := hT 4 1 (by kernel_rfl)
            have hD6 : D 6 = true := hT 3 6 (by kernel_rfl)
            have hD13 : D 13 = false := hDi
            clear hT hF
            rw [hD1, hD6, hD13] at hI
            refine Reg.Gives.call (f := 32) (args := #[.pointer (some ⟨p, 0, none⟩)]) (w' := wi) (by go_simp) ?_
            have hir := hI.it
            simp only [cond_false, cond_true] at hir
            refine (rNodes_any wi p g _ _ hir).mono ?_
            rintro e w'' ⟨v, rfl, hv, hi', hf'⟩
            rw [HRN.out.1] at hv
            rw [HRN.out.2.1, HRN.out.2.2] at hi'
            refine ⟨_, rfl, fun x h => (by cases h), ?_⟩
            show byI p g t l ns ml (D 1) (D 6) true (V 6) v w6 w8 w''
            rw [hD1, hD6]
            exact hI.nodes hv hi' hf'
          · obtain rfl := Option.some.inj ho
            intro D V ρ wi hE hI hDi hT hF hs hd hk
            replace hI : byI p g t l ns ml (D 1) (D 6) (D 13) (V 6) (V 13) w6 w8 wi := hI
            have e4 : ρ (.tmp 4) = .pointer (some ⟨w.heap.size + 1, 0, none⟩) := hs 4 (by kernel_rfl)
            have hgd : V 11 = .bool true := hk 11 (by kernel_rfl) _ rfl
            refine ⟨fun _ => ?_, fun h => absurd hgd h⟩
            clear hT hF hk
            exact Reg.Gives.value (v := .pointer (some ⟨w.heap.size + 1, 1, none⟩)) (w' := wi) (by go_simp) ⟨fun x h => Option.some.inj h, hI⟩
          · obtain rfl := Option.some.inj ho
            intro D V ρ wi hE hI hDi hT hF hs hd hk
            replace hI : byI p g t l ns ml (D 1) (D 6) (D 13) (V 6) (V 13) w6 w8 wi := hI
            have e129 : ρ (.tmp 129) = .pointer (some ⟨w.heap.size + 1, 1, none⟩) := (hd 14 129 (by kernel_rfl) (by kernel_rfl) (by show _ < 143; decide)).trans (hk 14 (by kernel_rfl) _ rfl)
            have hgd : V 11 = .bool true := hk 11 (by kernel_rfl) _ rfl
            refine ⟨fun _ => ?_, fun h => absurd hgd h⟩
            clear hT hF hk
            have ha := HC0.out.later hI.low
            have x1 := ha.cell (j := 1) rfl
            exact Reg.Gives.value (v := .slice B ns.length d) (w' := wi) (by go_simp) ⟨fun x h => Option.some.inj h, hI⟩
          · obtain rfl := Option.some.inj ho
            intro D V ρ wi hE hI hDi hT hF hs hd hk
            replace hI : byI p g t l ns ml (D 1) (D 6) (D 13) (V 6) (V 13) w6 w8 wi := hI
            have e128 : ρ (.tmp 128) = V 13 := hd 13 128 (by kernel_rfl) (by kernel_rfl) (by show _ < 143; decide)
            have e130 : ρ (.tmp 130) = .slice B ns.length d := (hd 15 130 (by kernel_rfl) (by kernel_rfl) (by show _ < 143; decide)).trans (hk 15 (by kernel_rfl) _ rfl)
            have hf := hE.func
            have hgd : V 11 = .bool true := hk 11 (by kernel_rfl) _ rfl
            refine ⟨fun _ => ?_, fun h => absurd hgd h⟩
            have hD1 : D 1 = true := hT 4 1 (by kernel_rfl)
            have hD6 : D 6 = true := hT 3 6 (by kernel_rfl)
            have hD13 : D 13 = true := hT 1 13 (by kernel_rfl)
            clear hT hF
            rw [hD13] at hI
            obtain ⟨X, cx, hvx, hix⟩ := nums_of_row (hI.r13 rfl)
            rw [hvx] at e128
            refine Reg.Gives.call (f := 35) (args := #[.slice X ns.length cx, .slice B ns.length d]) (w' := wi) (by go_simp) ?_
            refine (sameNodes_any X B ns ns cx d wi hix (HN0.out.later hI.low) (by have := HLN.out; omega)).mono ?_
            rintro e w'' ⟨rfl, hbb⟩
            rw [decide_eq_true (rfl : ns = ns)]
            refine ⟨_, rfl, fun x h => Option.some.inj h, ?_⟩
            show byI p g t l ns ml (D 1) (D 6) (D 13) (V 6) (V 13) w6 w8 w''
            rw [hD13]
            exact hI.later hbb
          · obtain rfl := Option.some.inj ho
            intro D V ρ wi hE hI hDi hT hF hs hd hk
            replace hI : byI p g t l ns ml (D 1) (D 6) (D 13) (V 6) (V 13) w6 w8 wi := hI
            have e126 : ρ (.tmp 126) = .bool true := (hd 11 126 (by kernel_rfl) (by kernel_rfl) (by show _ < 143; decide)).trans (hk 11 (by kernel_rfl) _ rfl)
            have e131 : ρ (.tmp 131) = .bool true := (hd 16 131 (by kernel_rfl) (by kernel_rfl) (by show _ < 143; decide)).trans (hk 16 (by kernel_rfl) _ rfl)
            have hc := hE.const
            clear hT hF hk
            exact Reg.Gives.value (v := .bool true) (w' := wi) (by go_simp) ⟨fun x h => Option.some.inj h, hI⟩
          · obtain rfl := Option.some.inj ho
            intro D V ρ wi hE hI hDi hT hF hs hd hk
            replace hI : byI p g t l ns ml (D 1) (D 6) (D 13) (V 6) (V 13) w6 w8 wi := hI
            have e132 : ρ (.tmp 132) = .bool true := (hd 17 132 (by kernel_rfl) (by kernel_rfl) (by show _ < 143; decide)).trans (hk 17 (by kernel_rfl) _ rfl)
            clear hT hF hk
            exact Reg.Gives.value (v := .bool true) (w' := wi) (by go_simp) ⟨fun x h => Option.some.inj h, hI⟩
          · obtain rfl := Option.some.inj ho
            intro D V ρ wi hE hI hDi hT hF hs hd hk
            replace hI : byI p g t l ns ml (D 1) (D 6) (D 13) (V 6) (V 13) w6 w8 wi := hI
            have e12 : ρ (.tmp 12) = .pointer (some ⟨p, 0, none⟩) := hs 12 (by kernel_rfl)
            have hgd : V 18 = .bool true := hk 18 (by kernel_rfl) _ rfl
            refine ⟨fun _ => ?_, fun h => absurd hgd h⟩
            clear hT hF hk
            exact Reg.Gives.value (v := .pointer (some ⟨p, 0, none⟩)) (w' := wi) (by go_simp) ⟨fun x h => Option.some.inj h, hI⟩
          · obtain rfl := Option.some.inj ho
            intro D V ρ wi hE hI hDi hT hF hs hd hk
            replace hI : byI p g t l ns ml (D 1) (D 6) (D 13) (V 6) (V 13) w6 w8 wi := hI
            have e134 : ρ (.tmp 134) = .pointer (some ⟨p, 0, none⟩) := (hd 19 134 (by kernel_rfl) (by kernel_rfl) (by show _ < 143; decide)).trans (hk 19 (by kernel_rfl) _ rfl)
            have hgd : V 18 = .bool true := hk 18 (by kernel_rfl) _ rfl
            refine ⟨fun _ => ?_, fun h => absurd hgd h⟩
            clear hT hF hk
            exact Reg.Gives.value (v := .pointer (some ⟨p, 0, none⟩)) (w' := wi) (by go_simp) ⟨fun x h => Option.some.inj h, hI⟩
          · obtain rfl := Option.some.inj ho
            intro D V ρ wi hE hI hDi hT hF hs hd hk
            replace hI : byI p g t l ns ml (D 1) (D 6) (D 13) (V 6) (V 13) w6 w8 wi := hI
            have e135 : ρ (.tmp 135) = .pointer (some ⟨p, 0, none⟩) := (hd 20 135 (by kernel_rfl) (by kernel_rfl) (by show _ < 143; decide)).trans (hk 20 (by kernel_rfl) _ rfl)
            have hgd : V 18 = .bool true := hk 18 (by kernel_rfl) _ rfl
            refine ⟨fun _ => ?_, fun h => absurd hgd h⟩
            clear hT hF hk
            exact Reg.Gives.value (v := .pointer (some ⟨p, 0, none⟩)) (w' := wi) (by go_simp) ⟨fun x h => Option.some.inj h, hI⟩
          · obtain rfl := Option.some.inj ho
            intro D V ρ wi hE hI hDi hT hF hs hd hk
            replace hI : byI p g t l ns ml (D 1) (D 6) (D 13) (V 6) (V 13) w6 w8 wi := hI
            have e136 : ρ (.tmp 136) = .pointer (some ⟨p, 0, none⟩) := (hd 21 136 (by kernel_rfl) (by kernel_rfl) (by show _ < 143; decide)).trans (hk 21 (by kernel_rfl) _ rfl)
            have hgd : V 18 = .bool true := hk 18 (by kernel_rfl) _ rfl
            refine ⟨fun _ => ?_, fun h => absurd hgd h⟩
            clear hT hF hk
            have hx := hI.it.cell
            exact Reg.Gives.value (v := .pointer (some ⟨g, 0, none⟩)) (w' := wi) (by go_simp) ⟨fun x h => Option.some.inj h, hI⟩
          · obtain rfl := Option.some.inj ho
            intro D V ρ wi hE hI hDi hT hF hs hd hk
            replace hI : byI p g t l ns ml (D 1) (D 6) (D 13) (V 6) (V 13) w6 w8 wi := hI
            have e137 : ρ (.tmp 137) = .pointer (some ⟨g, 0, none⟩) := (hd 22 137 (by kernel_rfl) (by kernel_rfl) (by show _ < 143; decide)).trans (hk 22 (by kernel_rfl) _ rfl)
            have hf := hE.func
            have hgd : V 18 = .bool true := hk 18 (by kernel_rfl) _ rfl
            refine ⟨fun _ => ?_, fun h => absurd hgd h⟩
            have hD1 : D 1 = true := hT 6 1 (by kernel_rfl)
            have hD6 : D 6 = true := hT 5 6 (by kernel_rfl)
            have hD13 : D 13 = true := hT 3 13 (by kernel_rfl)
            clear hT hF
            rw [hD13] at hI
            refine Reg.Gives.call (f := 33) (args := #[.pointer (some ⟨g, 0, none⟩)]) (w' := wi) (by go_simp) ?_
            have hir := hI.it.rd
            simp only [cond_true] at hir
            refine (left_any wi (some g) _ _ hir).mono ?_
            rintro e w'' ⟨rfl, rfl⟩
            refine ⟨_, rfl, fun x h => Option.some.inj h, ?_⟩
            show byI p g t l ns ml (D 1) (D 6) (D 13) (V 6) (V 13) w6 w8 wi
            rw [hD13]
            exact hI
          · obtain rfl := Option.some.inj ho
            intro D V ρ wi hE hI hDi hT hF hs hd hk
            replace hI : byI p g t l ns ml (D 1) (D 6) (D 13) (V 6) (V 13) w6 w8 wi := hI
            have e2 : ρ (.tmp 2) = .string (bs ml) := hs 2 (by kernel_rfl)
            have hgd : V 18 = .bool true := hk 18 (by kernel_rfl) _ rfl
            refine ⟨fun _ => ?_, fun h => absurd hgd h⟩
            clear hT hF hk
            exact Reg.Gives.value (v := .string (bs ml)) (w' := wi) (by go_simp) ⟨fun x h => Option.some.inj h, hI⟩
          · obtain rfl := Option.some.inj ho
            intro D V ρ wi hE hI hDi hT hF hs hd hk
            replace hI : byI p g t l ns ml (D 1) (D 6) (D 13) (V 6) (V 13) w6 w8 wi := hI
            have e139 : ρ (.tmp 139) = .string (bs ml) := (hd 24 139 (by kernel_rfl) (by kernel_rfl) (by show _ < 143; decide)).trans (hk 24 (by kernel_rfl) _ rfl)
            have hgd : V 18 = .bool true := hk 18 (by kernel_rfl) _ rfl
            refine ⟨fun _ => ?_, fun h => absurd hgd h⟩
            clear hT hF hk
            skip
            exact Reg.Gives.value (v := .int .i64 ((bs ml).size : Int)) (w' := wi) (by go_simp) ⟨fun x h => Option.some.inj h, hI⟩
          · obtain rfl := Option.some.inj ho
            intro D V ρ wi hE hI hDi hT hF hs hd hk
            replace hI : byI p g t l ns ml (D 1) (D 6) (D 13) (V 6) (V 13) w6 w8 wi := hI
            have e138 : ρ (.tmp 138) = .int .i64 ((bs ml).size : Int) := (hd 23 138 (by kernel_rfl) (by kernel_rfl) (by show _ < 143; decide)).trans (hk 23 (by kernel_rfl) _ rfl)
            have e140 : ρ (.tmp 140) = .int .i64 ((bs ml).size : Int) := (hd 25 140 (by kernel_rfl) (by kernel_rfl) (by show _ < 143; decide)).trans (hk 25 (by kernel_rfl) _ rfl)
            have hgd : V 18 = .bool true := hk 18 (by kernel_rfl) _ rfl
            refine ⟨fun _ => ?_, fun h => absurd hgd h⟩
            clear hT hF hk
            exact Reg.Gives.value (v := .bool true) (w' := wi) (by go_simp) ⟨fun x h => Option.some.inj h, hI⟩
          · obtain rfl := Option.some.inj ho
            intro D V ρ wi hE hI hDi hT hF hs hd hk
            replace hI : byI p g t l ns ml (D 1) (D 6) (D 13) (V 6) (V 13) w6 w8 wi := hI
            have e133 : ρ (.tmp 133) = .bool true := (hd 18 133 (by kernel_rfl) (by kernel_rfl) (by show _ < 143; decide)).trans (hk 18 (by kernel_rfl) _ rfl)
            have e141 : ρ (.tmp 141) = .bool true := (hd 26 141 (by kernel_rfl) (by kernel_rfl) (by show _ < 143; decide)).trans (hk 26 (by kernel_rfl) _ rfl)
            have hc := hE.const
            clear hT hF hk
            exact Reg.Gives.value (v := .bool true) (w' := wi) (by go_simp) ⟨fun x h => Option.some.inj h, hI⟩
          · obtain rfl := Option.some.inj ho
            intro D V ρ wi hE hI hDi hT hF hs hd hk
            replace hI : byI p g t l ns ml (D 1) (D 6) (D 13) (V 6) (V 13) w6 w8 wi := hI
            have e142 : ρ (.tmp 142) = .bool true := (hd 27 142 (by kernel_rfl) (by kernel_rfl) (by show _ < 143; decide)).trans (hk 27 (by kernel_rfl) _ rfl)
            clear hT hF hk
            exact Reg.Gives.value (v := .bool true) (w' := wi) (by go_simp) ⟨fun x h => Option.some.inj h, hI⟩
          · omega
        · intro V w1 hk hI
          have hV28 : V 28 = .bool true := hk 28 (by show _ < 29; decide) _ rfl
          simp only [Reg.putsO, List.foldl_cons, List.foldl_nil, Act.put, List.setIfInBounds_toArray, List.set_cons_succ, List.set_cons_zero, hV28]
          replace hI : byI p g t l ns ml true true true (V 6) (V 13) w6 w8 w1 := hI
          clear hk hV28
          have HL := Lib.hid hI.low
          clear hI
          go_wp2_with fail
          go_returns
          exact ⟨rfl, HB1.out.trans ((HB6.out.trans (HL.out.mono HB6.out.size)).mono HB1.out.size)⟩

theorem opened {H : Type} {enc : TypeId × Value → H} {W : World} {base : Nat} {gs : List (DataW H)} (v0 : Value) (d0 : DataW H) (p0 : List MemPlace) (v1 : Value) (d1 : DataW H) (p1 : List MemPlace) (v2 : Value) (d2 : DataW H) (p2 : List MemPlace)
    (o0 : Value.okWide Try.prog W .any base 23 v0) (t0 : DataW.Trod enc Try.prog W 0 (fun _ => true) true 23 v0 d0 p0)
    (o1 : Value.okWide Try.prog W .any base 27 v1) (t1 : DataW.Trod enc Try.prog W 0 (fun _ => true) true 27 v1 d1 p1)
    (o2 : Value.okWide Try.prog W .any base 9 v2) (t2 : DataW.Trod enc Try.prog W 0 (fun _ => true) true 9 v2 d2 p2)
    (_hsz : (DataW.weightsEach Try.prog ([23, 27, 9] ++ []) ([d0, d1, d2] ++ gs)).all (· ≤ reachBytes) = true) :
    Calls Try.prog 5 #[v0, v1, v2] W fun e W' => e = .returned (.bool true) ∧ Below W.heap.size W W' := by
  obtain ⟨t, rfl, ht⟩ := open_tid o0 t0
  obtain ⟨A, B, l, ns, c, d, rfl, hi, hml, hio, _, hn, hmn, hno, _⟩ := open_case o1 t1
  obtain ⟨s, rfl, rfl, rfl, _⟩ := Go.ChangeMaps.open_string Try.underlying9 o2 t2
  obtain ⟨ml, rfl⟩ : ∃ ml, s = bs ml := ⟨s.data.toList, (bytes_eta s).symm⟩
  exact walk t A B l ns c d ml W ht hi hio hn hno hml hmn

theorem contract (H : Type) (enc : TypeId × Value → H) (W : World) (base : Nat) (args : Array Value) (ds gs : List (DataW H)) (before : List MemPlace)
    (hval : ∀ (j : Nat) t v, Try.f5.params[j]? = some t → args[j]? = some v → Value.okWide Try.prog W .any base t v)
    (hW : DataW.Whole enc Try.prog Try.f5.params.toList Rows.itemBytesSpec.vars false W args.toList ds gs before)
    (hsz : (DataW.weightsEach Try.prog (Try.f5.params.toList ++ []) (ds ++ gs)).all (· ≤ reachBytes) = true) :
    Calls Try.prog 5 args W fun e W' => ∃ v, e = .returned v ∧ Rows.itemBytesSpec.post enc Try.prog Try.f5 false true false false W args v W' := by
  have hW0 := hW
  obtain ⟨p, q, hA0, hV, rfl, _, _⟩ := hW
  have hA : DataW.TrodAll enc Try.prog W 0 (fun _ => true) true Try.f5.params.toList args.toList ds p := hA0
  rw [Try.params5] at hA hval hsz
  obtain ⟨v0, vs0, d0, ds0, p0, q0, hargs, rfl, rfl, h0, r0⟩ := trodAll_cons hA
  obtain ⟨v1, vs1, d1, ds1, p1, q1, rfl, rfl, rfl, h1, r1⟩ := trodAll_cons r0
  obtain ⟨v2, vs2, d2, ds2, p2, q2, rfl, rfl, rfl, h2, r2⟩ := trodAll_cons r1
  obtain ⟨rfl, rfl, rfl⟩ := trodAll_nil r2
  obtain rfl : args = #[v0, v1, v2] := by cases args; simp_all
  refine (opened v0 d0 p0 v1 d1 p1 v2 d2 p2 (hval 0 23 v0 rfl rfl) h0 (hval 1 27 v1 rfl rfl) h1 (hval 2 9 v2 rfl rfl) h2 hsz).mono fun e W' ⟨he, hb⟩ => ⟨_, he, ?_⟩
  exact Base.law_post (tb := 4) Base.laidOut (by kernel_rfl) rfl Try.underlying4 rfl (fun l hl => by
    rw [Try.params5] at hl
    match l, hl with
    | [_, _, _], _ => rfl) (by rw [Try.params5]; rfl) hW0 hb

theorem laid_met (os : Os) : laidMet Try.prog Rows.itemBytesRow.laid ((Base.plainWorld os).forCall (fun _ _ => 0) ⟨#[], #[.agg #[.int .i64 0, .int .i64 0, .int .i64 0], .agg #[.slice none 0 0, .slice none 0 0], .string ⟨#[]⟩], []⟩).memory := laidMet_nil _ _
theorem reads (os : Os) {H : Type} (enc : TypeId × Value → H) : ∃ places, DataW.whole enc Try.prog ((Base.plainWorld os).forCall (fun _ _ => 0) ⟨#[], #[.agg #[.int .i64 0, .int .i64 0, .int .i64 0], .agg #[.slice none 0 0, .slice none 0 0], .string ⟨#[]⟩], []⟩).memory Try.f5.params.toList Rows.itemBytesSpec.vars false (#[.agg #[.int .i64 0, .int .i64 0, .int .i64 0], .agg #[.slice none 0 0, .slice none 0 0], .string ⟨#[]⟩] : Array Value).toList 8 = some ([.agg [.lit (.int .i64 0), .lit (.int .i64 0), .lit (.int .i64 0)], .agg [.nil, .nil], .lit (.string [])], [], places) :=
  ⟨[], by kernel_rfl⟩

set_option maxRecDepth 100000 in
theorem lifted (os : Os) (started : os.Started) (H : Type) (enc : TypeId × Value → H) (F : Stop.Interp) :
    ReturnsInHanded {} Try.checked os 5 .any ((OpenSpec.ofChange Rows.itemBytesSpec).preRow enc Try.prog Try.f5 Rows.itemBytesRow.domain false Rows.itemBytesRow.laid) (((OpenSpec.ofChange Rows.itemBytesSpec).at F).post enc Try.prog Try.f5 false true false false) := by
  obtain ⟨places, hx⟩ := reads os enc
  refine returnsInHanded_of_row (C := Try.checked) (s := OpenSpec.ofChange Rows.itemBytesSpec) Base.own started (by kernel_rfl) Try.func5
    (witness_row_at (enc := enc) (C := Try.checked) false (Base.plainWorld os) #[.agg #[.int .i64 0, .int .i64 0, .int .i64 0], .agg #[.slice none 0 0, .slice none 0 0], .string ⟨#[]⟩] rfl (by kernel_rfl) (by kernel_rfl) (by kernel_rfl)
      (OpenSpec.preRow_of_cond 8 hx (by kernel_rfl) (fun k hk => by cases hk) (by kernel_rfl) (laid_met os))) ?_
  intro W base args ds gs before hval hW _ _ hsz _ _ _
  exact contract H enc W base args ds gs before hval hW hsz

theorem said : Rows.ItemBytesSaid :=
  OpenClaim.holds_of_cond 5 Try.f5 rfl rfl rfl rfl rfl rfl rfl ⟨rfl, rfl, rfl, rfl, rfl⟩ rfl rfl rfl rfl rfl (by kernel_rfl) Try.func5 (by kernel_rfl)
    (of_decide_eq_true (by kernel_rfl)) (by unfold Func.isWrapper; rw [if_neg (of_decide_eq_false (by kernel_rfl))]; exact ⟨rfl, rfl⟩)
    (fun os started H enc _ F => by rw [OpenClaim.pre_eq_preRow]; exact lifted os started H enc F)
#print axioms said
end Go.Proofs.Ytphgnglbniclgaa.ItemBytes
