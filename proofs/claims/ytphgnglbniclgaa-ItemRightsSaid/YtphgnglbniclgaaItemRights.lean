/-
  ItemRights is proved: whether any name, items and nodes are right, and how names stand, is what the document says. Conditions: none.
-/
import Derived.Test.YtphgnglbniclgaaItemAwake
import Derived.Test.YtphgnglbniclgaaItemNodes
import Derived.Test.YtphgnglbniclgaaItemCase
namespace Go.Proofs.Ytphgnglbniclgaa.ItemRights
open Go.ChangeShapes Go.WideShapes Go.ChangeAt Go.RowKit Go.Proofs.Ytphgnglbniclgaa.Mem Go.Proofs.Ytphgnglbniclgaa.Item

def rightsGood (a b : Tid) (A B : Option Addr) (l : List It) (ns : List Int) (c d s : Nat) : Nat → Value → World → Prop
  | 0, v, _ => v = .agg #[.int .i64 a.node, .int .i64 a.epoch, .int .i64 a.seq]
  | 1, v, _ => v = .agg #[.int .i64 b.node, .int .i64 b.epoch, .int .i64 b.seq]
  | 2, v, _ => v = .int .i64 (ord a b)
  | 3, v, _ => v = .agg #[.int .i64 a.node, .int .i64 a.epoch, .int .i64 a.seq]
  | 4, v, _ => v = .agg #[.int .i64 b.node, .int .i64 b.epoch, .int .i64 b.seq]
  | 5, v, _ => v = .int .i64 (ord a b)
  | 6, v, _ => v = .bool true
  | 7, v, _ => v = .bool true
  | 8, v, _ => v = .agg #[.int .i64 a.node, .int .i64 a.epoch, .int .i64 a.seq]
  | 9, v, _ => v = .bool (rightTid a)
  | 10, v, _ => v = .agg #[.int .i64 a.node, .int .i64 a.epoch, .int .i64 a.seq]
  | 11, v, _ => v = .bool (rightTid a)
  | 12, v, _ => v = .bool true
  | 13, v, _ => v = .bool true
  | 14, v, _ => v = .bool true
  | 15, v, _ => v = .pointer (some ⟨s + 2, 0, none⟩)
  | 16, v, _ => v = .slice A l.length c
  | 17, v, _ => v = .bool (rightItems l)
  | 18, v, _ => v = .pointer (some ⟨s + 2, 0, none⟩)
  | 19, v, _ => v = .slice A l.length c
  | 20, v, _ => v = .bool (rightItems l)
  | 21, v, _ => v = .bool true
  | 22, v, _ => v = .bool true
  | 23, v, _ => v = .bool true
  | 24, v, _ => v = .pointer (some ⟨s + 2, 1, none⟩)
  | 25, v, _ => v = .slice B ns.length d
  | 26, v, _ => v = .bool (rightNodes ns)
  | 27, v, _ => v = .pointer (some ⟨s + 2, 1, none⟩)
  | 28, v, _ => v = .slice B ns.length d
  | 29, v, _ => v = .bool (rightNodes ns)
  | 30, v, _ => v = .bool true
  | 31, v, _ => v = .bool true
  | 32, v, _ => v = .bool true
  | _, _, _ => True
theorem rightsGood_later {a b : Tid} {A B : Option Addr} {l : List It} {ns : List Int} {c d s : Nat} {j : Nat} {v : Value} {w w' : World} (_hb : Below w.heap.size w w') (h : rightsGood a b A B l ns c d s j v w) : rightsGood a b A B l ns c d s j v w' := by
  match j, h with
  | 0, h | 1, h | 2, h | 3, h | 4, h | 5, h | 6, h | 7, h | 8, h | 9, h | 10, h | 11, h | 12, h | 13, h | 14, h | 15, h | 16, h | 17, h | 18, h | 19, h | 20, h | 21, h | 22, h | 23, h | 24, h | 25, h | 26, h | 27, h | 28, h | 29, h | 30, h | 31, h | 32, h => exact h
  | _ + 33, _ => exact trivial
set_option maxHeartbeats 1000000 in
theorem walk (a b : Tid) (A B : Option Addr) (l : List It) (ns : List Int) (c d : Nat) (w : World) (hi : Items w A l) (hn : Nums w B ns) (hml : l.length ≤ maxLen) (hmn : ns.length ≤ maxLen) :
    Calls Try.prog 3 #[a.val, b.val, .agg #[.slice A l.length c, .slice B ns.length d]] w fun e w' => e = .returned (.bool true) ∧ Below w.heap.size w w' := by
  unfold maxLen at hml hmn
  have hba := below_alloc w (.cells #[.int .i64 a.node, .int .i64 a.epoch, .int .i64 a.seq] 23)
  have hbb := hba.alloc hba.size (.cells #[.int .i64 b.node, .int .i64 b.epoch, .int .i64 b.seq] 23)
  have hbc := hbb.alloc hbb.size (.cells #[.slice A l.length c, .slice B ns.length d] 27)
  have hca := ((cells_new w 23 a.vals #[.int .i64 a.node, .int .i64 a.epoch, .int .i64 a.seq] rfl).later (below_alloc _ (.cells #[.int .i64 b.node, .int .i64 b.epoch, .int .i64 b.seq] 23))).later (below_alloc _ (.cells #[.slice A l.length c, .slice B ns.length d] 27))
  have hcb := (cells_new (w.alloc (.cells #[.int .i64 a.node, .int .i64 a.epoch, .int .i64 a.seq] 23)) 23 b.vals #[.int .i64 b.node, .int .i64 b.epoch, .int .i64 b.seq] rfl).later (below_alloc _ (.cells #[.slice A l.length c, .slice B ns.length d] 27))
  have hcc := cells_new ((w.alloc (.cells #[.int .i64 a.node, .int .i64 a.epoch, .int .i64 a.seq] 23)).alloc (.cells #[.int .i64 b.node, .int .i64 b.epoch, .int .i64 b.seq] 23)) 27 [.slice A l.length c, .slice B ns.length d] #[.slice A l.length c, .slice B ns.length d] rfl
  rw [World.size_alloc] at hcb
  rw [World.size_alloc, World.size_alloc] at hcc
  have HBC := Lib.hid hbc
  have HCA := Lib.hid hca
  have HCB := Lib.hid hcb
  have HCC := Lib.hid hcc
  have HI0 := Lib.hid (hi.later hbc)
  have HN0 := Lib.hid (hn.later hbc)
  clear hba hbb hbc hca hcb hcc hi hn
  unfold Tid.val
  go_enter Try.func3, Try.ntmps3
  go_wp2_with fail
  refine (awake_any _).mono ?_
  rintro e w1 ⟨rfl, hb1⟩
  have HB1 := Lib.hid (HBC.out.trans (hb1.mono HBC.out.size))
  have HA := Lib.hid (HCA.out.later hb1)
  have HB := Lib.hid (HCB.out.later hb1)
  have HS := Lib.hid (HCC.out.later hb1)
  have HIT := Lib.hid (HI0.out.later hb1)
  have HNS := Lib.hid (HN0.out.later hb1)
  clear hb1
  have z0 := HS.out.cell (j := 0) rfl
  have z1 := HS.out.cell (j := 1) rfl
  by_cases h1 : 60 < l.length
  · go_wp2_with fail
    go_returns
    exact ⟨rfl, HB1.out⟩
  · by_cases h2 : 60 < ns.length
    · go_wp2_with fail
      go_returns
      exact ⟨rfl, HB1.out⟩
    · have HLI := Lib.hid (show l.length ≤ 1000000 by omega)
      have HLN := Lib.hid (show ns.length ≤ 1000000 by omega)
      go_wp2_with fail
      clear z0 z1
      refine Reg.region_heavy (by kernel_rfl) 32 [32] (rightsGood a b A B l ns c d w.heap.size) (fun a => Below w1.heap.size w1 a) (fun a => Below w1.heap.size w1 a) (fun V => [(some 19, V 0), (some 20, V 1), (some 21, V 2), (some 22, V 3), (some 23, V 4), (some 24, V 5), (some 25, V 6), (some 26, V 7), (some 27, V 8), (some 28, V 9), (some 29, V 10), (some 30, V 11), (some 31, V 12), (some 32, V 13), (some 33, V 14), (some 34, V 15), (some 35, V 16), (some 36, V 17), (some 37, V 18), (some 38, V 19), (some 39, V 20), (some 40, V 21), (some 41, V 22), (some 42, V 23), (some 43, V 24), (some 44, V 25), (some 45, V 26), (some 46, V 27), (some 47, V 28), (some 48, V 29), (some 49, V 30), (some 50, V 31), (some 6, V 32)]) (by kernel_rfl) (by kernel_rfl) (by kernel_rfl) (fun V => rfl) ?_ ?_ ?_
      · exact (Below.refl _ _).drew
      · intro i o ho
        have hi : i < 33 := (Array.getElem?_eq_some_iff.1 ho).1
        rcases i with _ | _ | _ | _ | _ | _ | _ | _ | _ | _ | _ | _ | _ | _ | _ | _ | _ | _ | _ | _ | _ | _ | _ | _ | _ | _ | _ | _ | _ | _ | _ | _ | _ | i
        · obtain rfl := Option.some.inj ho
          intro ρ wi hE hI hs hd
          replace hI : (fun a => Below w1.heap.size w1 a) wi := hI
          have e3 : ρ (.tmp 3) = .pointer (some ⟨w.heap.size, 0, none⟩) := hs 3 (by kernel_rfl)
          have ha := HA.out.later hI
          have x0 := ha.cell (j := 0) rfl
          have x1 := ha.cell (j := 1) rfl
          have x2 := ha.cell (j := 2) rfl
          exact Reg.Gives.value (v := .agg #[.int .i64 a.node, .int .i64 a.epoch, .int .i64 a.seq]) (w' := wi) (by go_simp) (Reg.OwedH.same hI rfl)
        · obtain rfl := Option.some.inj ho
          intro ρ wi hE hI hs hd
          replace hI : (fun a => Below w1.heap.size w1 a) wi := hI
          have e4 : ρ (.tmp 4) = .pointer (some ⟨w.heap.size + 1, 0, none⟩) := hs 4 (by kernel_rfl)
          have hb := HB.out.later hI
          have x0 := hb.cell (j := 0) rfl
          have x1 := hb.cell (j := 1) rfl
          have x2 := hb.cell (j := 2) rfl
          exact Reg.Gives.value (v := .agg #[.int .i64 b.node, .int .i64 b.epoch, .int .i64 b.seq]) (w' := wi) (by go_simp) (Reg.OwedH.same hI rfl)
        · obtain rfl := Option.some.inj ho
          intro ρ wi hE hI hs hd
          replace hI : (fun a => Below w1.heap.size w1 a) wi := hI
          obtain ⟨u19, g19, e19⟩ := hd 0 19 (by kernel_rfl) (by kernel_rfl) (by show _ < 51; decide)
          obtain rfl : u19 = .agg #[.int .i64 a.node, .int .i64 a.epoch, .int .i64 a.seq] := g19
          obtain ⟨u20, g20, e20⟩ := hd 1 20 (by kernel_rfl) (by kernel_rfl) (by show _ < 51; decide)
          obtain rfl : u20 = .agg #[.int .i64 b.node, .int .i64 b.epoch, .int .i64 b.seq] := g20
          have hf := hE.func
          refine Reg.Gives.call (f := 8) (args := #[.agg #[.int .i64 a.node, .int .i64 a.epoch, .int .i64 a.seq], .agg #[.int .i64 b.node, .int .i64 b.epoch, .int .i64 b.seq]]) (w' := wi) (by go_simp) ?_
          refine (order_any a b wi).mono ?_
          rintro e w'' ⟨rfl, hbb⟩
          exact ⟨_, rfl, ⟨rfl, hI.trans (hbb.mono hI.size), fun j u _ _ h => rightsGood_later hbb h⟩⟩
        · obtain rfl := Option.some.inj ho
          intro ρ wi hE hI hs hd
          replace hI : (fun a => Below w1.heap.size w1 a) wi := hI
          have e3 : ρ (.tmp 3) = .pointer (some ⟨w.heap.size, 0, none⟩) := hs 3 (by kernel_rfl)
          have ha := HA.out.later hI
          have x0 := ha.cell (j := 0) rfl
          have x1 := ha.cell (j := 1) rfl
          have x2 := ha.cell (j := 2) rfl
          exact Reg.Gives.value (v := .agg #[.int .i64 a.node, .int .i64 a.epoch, .int .i64 a.seq]) (w' := wi) (by go_simp) (Reg.OwedH.same hI rfl)
        · obtain rfl := Option.some.inj ho
          intro ρ wi hE hI hs hd
          replace hI : (fun a => Below w1.heap.size w1 a) wi := hI
          have e4 : ρ (.tmp 4) = .pointer (some ⟨w.heap.size + 1, 0, none⟩) := hs 4 (by kernel_rfl)
          have hb := HB.out.later hI
          have x0 := hb.cell (j := 0) rfl
          have x1 := hb.cell (j := 1) rfl
          have x2 := hb.cell (j := 2) rfl
          exact Reg.Gives.value (v := .agg #[.int .i64 b.node, .int .i64 b.epoch, .int .i64 b.seq]) (w' := wi) (by go_simp) (Reg.OwedH.same hI rfl)
        · obtain rfl := Option.some.inj ho
          intro ρ wi hE hI hs hd
          replace hI : (fun a => Below w1.heap.size w1 a) wi := hI
          obtain ⟨u22, g22, e22⟩ := hd 3 22 (by kernel_rfl) (by kernel_rfl) (by show _ < 51; decide)
          obtain rfl : u22 = .agg #[.int .i64 a.node, .int .i64 a.epoch, .int .i64 a.seq] := g22
          obtain ⟨u23, g23, e23⟩ := hd 4 23 (by kernel_rfl) (by kernel_rfl) (by show _ < 51; decide)
          obtain rfl : u23 = .agg #[.int .i64 b.node, .int .i64 b.epoch, .int .i64 b.seq] := g23
          have hf := hE.func
          refine Reg.Gives.call (f := 9) (args := #[.agg #[.int .i64 a.node, .int .i64 a.epoch, .int .i64 a.seq], .agg #[.int .i64 b.node, .int .i64 b.epoch, .int .i64 b.seq]]) (w' := wi) (by go_simp) ?_
          refine (refOrder_any a b wi).mono ?_
          rintro e w'' ⟨rfl, hbb⟩
          exact ⟨_, rfl, ⟨rfl, hI.trans (hbb.mono hI.size), fun j u _ _ h => rightsGood_later hbb h⟩⟩
        · obtain rfl := Option.some.inj ho
          intro ρ wi hE hI hs hd
          replace hI : (fun a => Below w1.heap.size w1 a) wi := hI
          obtain ⟨u21, g21, e21⟩ := hd 2 21 (by kernel_rfl) (by kernel_rfl) (by show _ < 51; decide)
          obtain rfl : u21 = .int .i64 (ord a b) := g21
          obtain ⟨u24, g24, e24⟩ := hd 5 24 (by kernel_rfl) (by kernel_rfl) (by show _ < 51; decide)
          obtain rfl : u24 = .int .i64 (ord a b) := g24
          exact Reg.Gives.value (v := .bool true) (w' := wi) (by go_simp) (Reg.OwedH.same hI rfl)
        · obtain rfl := Option.some.inj ho
          intro ρ wi hE hI hs hd
          replace hI : (fun a => Below w1.heap.size w1 a) wi := hI
          obtain ⟨u25, g25, e25⟩ := hd 6 25 (by kernel_rfl) (by kernel_rfl) (by show _ < 51; decide)
          obtain rfl : u25 = .bool true := g25
          exact Reg.Gives.value (v := .bool true) (w' := wi) (by go_simp) (Reg.OwedH.same hI rfl)
        · obtain rfl := Option.some.inj ho
          intro ρ wi hE hI hs hd
          replace hI : (fun a => Below w1.heap.size w1 a) wi := hI
          have e3 : ρ (.tmp 3) = .pointer (some ⟨w.heap.size, 0, none⟩) := hs 3 (by kernel_rfl)
          intro ug hgg
          obtain rfl : ug = .bool true := hgg
          refine ⟨fun _ => ?_, fun h => absurd rfl h⟩
          have ha := HA.out.later hI
          have x0 := ha.cell (j := 0) rfl
          have x1 := ha.cell (j := 1) rfl
          have x2 := ha.cell (j := 2) rfl
          exact Reg.Gives.value (v := .agg #[.int .i64 a.node, .int .i64 a.epoch, .int .i64 a.seq]) (w' := wi) (by go_simp) (Reg.OwedH.same hI rfl)
        · obtain rfl := Option.some.inj ho
          intro ρ wi hE hI hs hd
          replace hI : (fun a => Below w1.heap.size w1 a) wi := hI
          obtain ⟨u27, g27, e27⟩ := hd 8 27 (by kernel_rfl) (by kernel_rfl) (by show _ < 51; decide)
          obtain rfl : u27 = .agg #[.int .i64 a.node, .int .i64 a.epoch, .int .i64 a.seq] := g27
          have hf := hE.func
          intro ug hgg
          obtain rfl : ug = .bool true := hgg
          refine ⟨fun _ => ?_, fun h => absurd rfl h⟩
          refine Reg.Gives.call (f := 10) (args := #[.agg #[.int .i64 a.node, .int .i64 a.epoch, .int .i64 a.seq]]) (w' := wi) (by go_simp) ?_
          refine (rightTid_any a wi).mono ?_
          rintro e w'' ⟨rfl, hbb⟩
          exact ⟨_, rfl, ⟨rfl, hI.trans (hbb.mono hI.size), fun j u _ _ h => rightsGood_later hbb h⟩⟩
        · obtain rfl := Option.some.inj ho
          intro ρ wi hE hI hs hd
          replace hI : (fun a => Below w1.heap.size w1 a) wi := hI
          have e3 : ρ (.tmp 3) = .pointer (some ⟨w.heap.size, 0, none⟩) := hs 3 (by kernel_rfl)
          intro ug hgg
          obtain rfl : ug = .bool true := hgg
          refine ⟨fun _ => ?_, fun h => absurd rfl h⟩
          have ha := HA.out.later hI
          have x0 := ha.cell (j := 0) rfl
          have x1 := ha.cell (j := 1) rfl
          have x2 := ha.cell (j := 2) rfl
          exact Reg.Gives.value (v := .agg #[.int .i64 a.node, .int .i64 a.epoch, .int .i64 a.seq]) (w' := wi) (by go_simp) (Reg.OwedH.same hI rfl)
        · obtain rfl := Option.some.inj ho
          intro ρ wi hE hI hs hd
          replace hI : (fun a => Below w1.heap.size w1 a) wi := hI
          obtain ⟨u29, g29, e29⟩ := hd 10 29 (by kernel_rfl) (by kernel_rfl) (by show _ < 51; decide)
          obtain rfl : u29 = .agg #[.int .i64 a.node, .int .i64 a.epoch, .int .i64 a.seq] := g29
          have hf := hE.func
          intro ug hgg
          obtain rfl : ug = .bool true := hgg
          refine ⟨fun _ => ?_, fun h => absurd rfl h⟩
          refine Reg.Gives.call (f := 11) (args := #[.agg #[.int .i64 a.node, .int .i64 a.epoch, .int .i64 a.seq]]) (w' := wi) (by go_simp) ?_
          refine (refRightTid_any a wi).mono ?_
          rintro e w'' ⟨rfl, hbb⟩
          exact ⟨_, rfl, ⟨rfl, hI.trans (hbb.mono hI.size), fun j u _ _ h => rightsGood_later hbb h⟩⟩
        · obtain rfl := Option.some.inj ho
          intro ρ wi hE hI hs hd
          replace hI : (fun a => Below w1.heap.size w1 a) wi := hI
          obtain ⟨u28, g28, e28⟩ := hd 9 28 (by kernel_rfl) (by kernel_rfl) (by show _ < 51; decide)
          obtain rfl : u28 = .bool (rightTid a) := g28
          obtain ⟨u30, g30, e30⟩ := hd 11 30 (by kernel_rfl) (by kernel_rfl) (by show _ < 51; decide)
          obtain rfl : u30 = .bool (rightTid a) := g30
          intro ug hgg
          obtain rfl : ug = .bool true := hgg
          refine ⟨fun _ => ?_, fun h => absurd rfl h⟩
          exact Reg.Gives.value (v := .bool true) (w' := wi) (by go_simp) (Reg.OwedH.same hI rfl)
        · obtain rfl := Option.some.inj ho
          intro ρ wi hE hI hs hd
          replace hI : (fun a => Below w1.heap.size w1 a) wi := hI
          obtain ⟨u26, g26, e26⟩ := hd 7 26 (by kernel_rfl) (by kernel_rfl) (by show _ < 51; decide)
          obtain rfl : u26 = .bool true := g26
          obtain ⟨u31, g31, e31⟩ := hd 12 31 (by kernel_rfl) (by kernel_rfl) (by show _ < 51; decide)
          obtain rfl : u31 = .bool true := g31
          have hc := hE.const
          exact Reg.Gives.value (v := .bool true) (w' := wi) (by go_simp) (Reg.OwedH.same hI rfl)
        · obtain rfl := Option.some.inj ho
          intro ρ wi hE hI hs hd
          replace hI : (fun a => Below w1.heap.size w1 a) wi := hI
          obtain ⟨u32, g32, e32⟩ := hd 13 32 (by kernel_rfl) (by kernel_rfl) (by show _ < 51; decide)
          obtain rfl : u32 = .bool true := g32
          exact Reg.Gives.value (v := .bool true) (w' := wi) (by go_simp) (Reg.OwedH.same hI rfl)
        · obtain rfl := Option.some.inj ho
          intro ρ wi hE hI hs hd
          replace hI : (fun a => Below w1.heap.size w1 a) wi := hI
          have e5 : ρ (.tmp 5) = .pointer (some ⟨w.heap.size + 2, 0, none⟩) := hs 5 (by kernel_rfl)
          intro ug hgg
          obtain rfl : ug = .bool true := hgg
          refine ⟨fun _ => ?_, fun h => absurd rfl h⟩
          exact Reg.Gives.value (v := .pointer (some ⟨w.heap.size + 2, 0, none⟩)) (w' := wi) (by go_simp) (Reg.OwedH.same hI rfl)
        · obtain rfl := Option.some.inj ho
          intro ρ wi hE hI hs hd
          replace hI : (fun a => Below w1.heap.size w1 a) wi := hI
          obtain ⟨u34, g34, e34⟩ := hd 15 34 (by kernel_rfl) (by kernel_rfl) (by show _ < 51; decide)
          obtain rfl : u34 = .pointer (some ⟨w.heap.size + 2, 0, none⟩) := g34
          intro ug hgg
          obtain rfl : ug = .bool true := hgg
          refine ⟨fun _ => ?_, fun h => absurd rfl h⟩
          have hs := HS.out.later hI
          have x0 := hs.cell (j := 0) rfl
          exact Reg.Gives.value (v := .slice A l.length c) (w' := wi) (by go_simp) (Reg.OwedH.same hI rfl)
        · obtain rfl := Option.some.inj ho
          intro ρ wi hE hI hs hd
          replace hI : (fun a => Below w1.heap.size w1 a) wi := hI
          obtain ⟨u35, g35, e35⟩ := hd 16 35 (by kernel_rfl) (by kernel_rfl) (by show _ < 51; decide)
          obtain rfl : u35 = .slice A l.length c := g35
          have hf := hE.func
          intro ug hgg
          obtain rfl : ug = .bool true := hgg
          refine ⟨fun _ => ?_, fun h => absurd rfl h⟩
          refine Reg.Gives.call (f := 12) (args := #[.slice A l.length c]) (w' := wi) (by go_simp) ?_
          refine (rightItems_any A l c wi (HIT.out.later hI) HLI.out).mono ?_
          rintro e w'' ⟨rfl, hbb⟩
          exact ⟨_, rfl, ⟨rfl, hI.trans (hbb.mono hI.size), fun j u _ _ h => rightsGood_later hbb h⟩⟩
        · obtain rfl := Option.some.inj ho
          intro ρ wi hE hI hs hd
          replace hI : (fun a => Below w1.heap.size w1 a) wi := hI
          have e5 : ρ (.tmp 5) = .pointer (some ⟨w.heap.size + 2, 0, none⟩) := hs 5 (by kernel_rfl)
          intro ug hgg
          obtain rfl : ug = .bool true := hgg
          refine ⟨fun _ => ?_, fun h => absurd rfl h⟩
          exact Reg.Gives.value (v := .pointer (some ⟨w.heap.size + 2, 0, none⟩)) (w' := wi) (by go_simp) (Reg.OwedH.same hI rfl)
        · obtain rfl := Option.some.inj ho
          intro ρ wi hE hI hs hd
          replace hI : (fun a => Below w1.heap.size w1 a) wi := hI
          obtain ⟨u37, g37, e37⟩ := hd 18 37 (by kernel_rfl) (by kernel_rfl) (by show _ < 51; decide)
          obtain rfl : u37 = .pointer (some ⟨w.heap.size + 2, 0, none⟩) := g37
          intro ug hgg
          obtain rfl : ug = .bool true := hgg
          refine ⟨fun _ => ?_, fun h => absurd rfl h⟩
          have hs := HS.out.later hI
          have x0 := hs.cell (j := 0) rfl
          exact Reg.Gives.value (v := .slice A l.length c) (w' := wi) (by go_simp) (Reg.OwedH.same hI rfl)
        · obtain rfl := Option.some.inj ho
          intro ρ wi hE hI hs hd
          replace hI : (fun a => Below w1.heap.size w1 a) wi := hI
          obtain ⟨u38, g38, e38⟩ := hd 19 38 (by kernel_rfl) (by kernel_rfl) (by show _ < 51; decide)
          obtain rfl : u38 = .slice A l.length c := g38
          have hf := hE.func
          intro ug hgg
          obtain rfl : ug = .bool true := hgg
          refine ⟨fun _ => ?_, fun h => absurd rfl h⟩
          refine Reg.Gives.call (f := 13) (args := #[.slice A l.length c]) (w' := wi) (by go_simp) ?_
          refine (refRightItems_any A l c wi (HIT.out.later hI) HLI.out).mono ?_
          rintro e w'' ⟨rfl, hbb⟩
          exact ⟨_, rfl, ⟨rfl, hI.trans (hbb.mono hI.size), fun j u _ _ h => rightsGood_later hbb h⟩⟩
        · obtain rfl := Option.some.inj ho
          intro ρ wi hE hI hs hd
          replace hI : (fun a => Below w1.heap.size w1 a) wi := hI
          obtain ⟨u36, g36, e36⟩ := hd 17 36 (by kernel_rfl) (by kernel_rfl) (by show _ < 51; decide)
          obtain rfl : u36 = .bool (rightItems l) := g36
          obtain ⟨u39, g39, e39⟩ := hd 20 39 (by kernel_rfl) (by kernel_rfl) (by show _ < 51; decide)
          obtain rfl : u39 = .bool (rightItems l) := g39
          intro ug hgg
          obtain rfl : ug = .bool true := hgg
          refine ⟨fun _ => ?_, fun h => absurd rfl h⟩
          exact Reg.Gives.value (v := .bool true) (w' := wi) (by go_simp) (Reg.OwedH.same hI rfl)
        · obtain rfl := Option.some.inj ho
          intro ρ wi hE hI hs hd
          replace hI : (fun a => Below w1.heap.size w1 a) wi := hI
          obtain ⟨u33, g33, e33⟩ := hd 14 33 (by kernel_rfl) (by kernel_rfl) (by show _ < 51; decide)
          obtain rfl : u33 = .bool true := g33
          obtain ⟨u40, g40, e40⟩ := hd 21 40 (by kernel_rfl) (by kernel_rfl) (by show _ < 51; decide)
          obtain rfl : u40 = .bool true := g40
          have hc := hE.const
          exact Reg.Gives.value (v := .bool true) (w' := wi) (by go_simp) (Reg.OwedH.same hI rfl)
        · obtain rfl := Option.some.inj ho
          intro ρ wi hE hI hs hd
          replace hI : (fun a => Below w1.heap.size w1 a) wi := hI
          obtain ⟨u41, g41, e41⟩ := hd 22 41 (by kernel_rfl) (by kernel_rfl) (by show _ < 51; decide)
          obtain rfl : u41 = .bool true := g41
          exact Reg.Gives.value (v := .bool true) (w' := wi) (by go_simp) (Reg.OwedH.same hI rfl)
        · obtain rfl := Option.some.inj ho
          intro ρ wi hE hI hs hd
          replace hI : (fun a => Below w1.heap.size w1 a) wi := hI
          have e5 : ρ (.tmp 5) = .pointer (some ⟨w.heap.size + 2, 0, none⟩) := hs 5 (by kernel_rfl)
          intro ug hgg
          obtain rfl : ug = .bool true := hgg
          refine ⟨fun _ => ?_, fun h => absurd rfl h⟩
          exact Reg.Gives.value (v := .pointer (some ⟨w.heap.size + 2, 1, none⟩)) (w' := wi) (by go_simp) (Reg.OwedH.same hI rfl)
        · obtain rfl := Option.some.inj ho
          intro ρ wi hE hI hs hd
          replace hI : (fun a => Below w1.heap.size w1 a) wi := hI
          obtain ⟨u43, g43, e43⟩ := hd 24 43 (by kernel_rfl) (by kernel_rfl) (by show _ < 51; decide)
          obtain rfl : u43 = .pointer (some ⟨w.heap.size + 2, 1, none⟩) := g43
          intro ug hgg
          obtain rfl : ug = .bool true := hgg
          refine ⟨fun _ => ?_, fun h => absurd rfl h⟩
          have hs := HS.out.later hI
          have x1 := hs.cell (j := 1) rfl
          exact Reg.Gives.value (v := .slice B ns.length d) (w' := wi) (by go_simp) (Reg.OwedH.same hI rfl)
        · obtain rfl := Option.some.inj ho
          intro ρ wi hE hI hs hd
          replace hI : (fun a => Below w1.heap.size w1 a) wi := hI
          obtain ⟨u44, g44, e44⟩ := hd 25 44 (by kernel_rfl) (by kernel_rfl) (by show _ < 51; decide)
          obtain rfl : u44 = .slice B ns.length d := g44
          have hf := hE.func
          intro ug hgg
          obtain rfl : ug = .bool true := hgg
          refine ⟨fun _ => ?_, fun h => absurd rfl h⟩
          refine Reg.Gives.call (f := 14) (args := #[.slice B ns.length d]) (w' := wi) (by go_simp) ?_
          refine (rightNodes_any B ns d wi (HNS.out.later hI) HLN.out).mono ?_
          rintro e w'' ⟨rfl, rfl⟩
          exact ⟨_, rfl, Reg.OwedH.same hI rfl⟩
        · obtain rfl := Option.some.inj ho
          intro ρ wi hE hI hs hd
          replace hI : (fun a => Below w1.heap.size w1 a) wi := hI
          have e5 : ρ (.tmp 5) = .pointer (some ⟨w.heap.size + 2, 0, none⟩) := hs 5 (by kernel_rfl)
          intro ug hgg
          obtain rfl : ug = .bool true := hgg
          refine ⟨fun _ => ?_, fun h => absurd rfl h⟩
          exact Reg.Gives.value (v := .pointer (some ⟨w.heap.size + 2, 1, none⟩)) (w' := wi) (by go_simp) (Reg.OwedH.same hI rfl)
        · obtain rfl := Option.some.inj ho
          intro ρ wi hE hI hs hd
          replace hI : (fun a => Below w1.heap.size w1 a) wi := hI
          obtain ⟨u46, g46, e46⟩ := hd 27 46 (by kernel_rfl) (by kernel_rfl) (by show _ < 51; decide)
          obtain rfl : u46 = .pointer (some ⟨w.heap.size + 2, 1, none⟩) := g46
          intro ug hgg
          obtain rfl : ug = .bool true := hgg
          refine ⟨fun _ => ?_, fun h => absurd rfl h⟩
          have hs := HS.out.later hI
          have x1 := hs.cell (j := 1) rfl
          exact Reg.Gives.value (v := .slice B ns.length d) (w' := wi) (by go_simp) (Reg.OwedH.same hI rfl)
        · obtain rfl := Option.some.inj ho
          intro ρ wi hE hI hs hd
          replace hI : (fun a => Below w1.heap.size w1 a) wi := hI
          obtain ⟨u47, g47, e47⟩ := hd 28 47 (by kernel_rfl) (by kernel_rfl) (by show _ < 51; decide)
          obtain rfl : u47 = .slice B ns.length d := g47
          have hf := hE.func
          intro ug hgg
          obtain rfl : ug = .bool true := hgg
          refine ⟨fun _ => ?_, fun h => absurd rfl h⟩
          refine Reg.Gives.call (f := 15) (args := #[.slice B ns.length d]) (w' := wi) (by go_simp) ?_
          refine (refRightNodes_any B ns d wi (HNS.out.later hI) HLN.out).mono ?_
          rintro e w'' ⟨rfl, hbb⟩
          exact ⟨_, rfl, ⟨rfl, hI.trans (hbb.mono hI.size), fun j u _ _ h => rightsGood_later hbb h⟩⟩
        · obtain rfl := Option.some.inj ho
          intro ρ wi hE hI hs hd
          replace hI : (fun a => Below w1.heap.size w1 a) wi := hI
          obtain ⟨u45, g45, e45⟩ := hd 26 45 (by kernel_rfl) (by kernel_rfl) (by show _ < 51; decide)
          obtain rfl : u45 = .bool (rightNodes ns) := g45
          obtain ⟨u48, g48, e48⟩ := hd 29 48 (by kernel_rfl) (by kernel_rfl) (by show _ < 51; decide)
          obtain rfl : u48 = .bool (rightNodes ns) := g48
          intro ug hgg
          obtain rfl : ug = .bool true := hgg
          refine ⟨fun _ => ?_, fun h => absurd rfl h⟩
          exact Reg.Gives.value (v := .bool true) (w' := wi) (by go_simp) (Reg.OwedH.same hI rfl)
        · obtain rfl := Option.some.inj ho
          intro ρ wi hE hI hs hd
          replace hI : (fun a => Below w1.heap.size w1 a) wi := hI
          obtain ⟨u42, g42, e42⟩ := hd 23 42 (by kernel_rfl) (by kernel_rfl) (by show _ < 51; decide)
          obtain rfl : u42 = .bool true := g42
          obtain ⟨u49, g49, e49⟩ := hd 30 49 (by kernel_rfl) (by kernel_rfl) (by show _ < 51; decide)
          obtain rfl : u49 = .bool true := g49
          have hc := hE.const
          exact Reg.Gives.value (v := .bool true) (w' := wi) (by go_simp) (Reg.OwedH.same hI rfl)
        · obtain rfl := Option.some.inj ho
          intro ρ wi hE hI hs hd
          replace hI : (fun a => Below w1.heap.size w1 a) wi := hI
          obtain ⟨u50, g50, e50⟩ := hd 31 50 (by kernel_rfl) (by kernel_rfl) (by show _ < 51; decide)
          obtain rfl : u50 = .bool true := g50
          exact Reg.Gives.value (v := .bool true) (w' := wi) (by go_simp) (Reg.OwedH.same hI rfl)
        · omega
      · intro V wz hV hI
        have hV32 : V 32 = .bool true := hV 32 (by decide) rfl
        simp only [Reg.putsO, List.foldl_cons, List.foldl_nil, Act.put, List.setIfInBounds_toArray, List.set_cons_succ, List.set_cons_zero, hV32]
        replace hI : (fun a => Below w1.heap.size w1 a) wz := hI
        clear hV hV32
        go_wp2_with fail
        go_returns
        exact ⟨rfl, HB1.out.trans (hI.mono HB1.out.size)⟩

theorem opened {H : Type} {enc : TypeId × Value → H} {W : World} {base : Nat} {gs : List (DataW H)} (v0 : Value) (d0 : DataW H) (p0 : List MemPlace) (v1 : Value) (d1 : DataW H) (p1 : List MemPlace) (v2 : Value) (d2 : DataW H) (p2 : List MemPlace)
    (o0 : Value.okWide Try.prog W .any base 23 v0) (t0 : DataW.Trod enc Try.prog W 0 (fun _ => true) true 23 v0 d0 p0)
    (o1 : Value.okWide Try.prog W .any base 23 v1) (t1 : DataW.Trod enc Try.prog W 0 (fun _ => true) true 23 v1 d1 p1)
    (o2 : Value.okWide Try.prog W .any base 27 v2) (t2 : DataW.Trod enc Try.prog W 0 (fun _ => true) true 27 v2 d2 p2)
    (_hsz : (DataW.weightsEach Try.prog ([23, 23, 27] ++ []) ([d0, d1, d2] ++ gs)).all (· ≤ reachBytes) = true) :
    Calls Try.prog 3 #[v0, v1, v2] W fun e W' => e = .returned (.bool true) ∧ Below W.heap.size W W' := by
  obtain ⟨a, rfl, _⟩ := open_tid o0 t0
  obtain ⟨b, rfl, _⟩ := open_tid o1 t1
  obtain ⟨A, B, l, ns, c, d, rfl, hi, hml, _, _, hn, hmn, _, _⟩ := open_case o2 t2
  exact walk a b A B l ns c d W hi hn hml hmn

theorem contract (H : Type) (enc : TypeId × Value → H) (W : World) (base : Nat) (args : Array Value) (ds gs : List (DataW H)) (before : List MemPlace)
    (hval : ∀ (j : Nat) t v, Try.f3.params[j]? = some t → args[j]? = some v → Value.okWide Try.prog W .any base t v)
    (hW : DataW.Whole enc Try.prog Try.f3.params.toList Rows.itemRightsSpec.vars false W args.toList ds gs before)
    (hsz : (DataW.weightsEach Try.prog (Try.f3.params.toList ++ []) (ds ++ gs)).all (· ≤ reachBytes) = true) :
    Calls Try.prog 3 args W fun e W' => ∃ v, e = .returned v ∧ Rows.itemRightsSpec.post enc Try.prog Try.f3 false true false false W args v W' := by
  have hW0 := hW
  obtain ⟨p, q, hA0, hV, rfl, _, _⟩ := hW
  have hA : DataW.TrodAll enc Try.prog W 0 (fun _ => true) true Try.f3.params.toList args.toList ds p := hA0
  rw [Try.params3] at hA hval hsz
  obtain ⟨v0, vs0, d0, ds0, p0, q0, hargs, rfl, rfl, h0, r0⟩ := trodAll_cons hA
  obtain ⟨v1, vs1, d1, ds1, p1, q1, rfl, rfl, rfl, h1, r1⟩ := trodAll_cons r0
  obtain ⟨v2, vs2, d2, ds2, p2, q2, rfl, rfl, rfl, h2, r2⟩ := trodAll_cons r1
  obtain ⟨rfl, rfl, rfl⟩ := trodAll_nil r2
  obtain rfl : args = #[v0, v1, v2] := by cases args; simp_all
  refine (opened v0 d0 p0 v1 d1 p1 v2 d2 p2 (hval 0 23 v0 rfl rfl) h0 (hval 1 23 v1 rfl rfl) h1 (hval 2 27 v2 rfl rfl) h2 hsz).mono fun e W' ⟨he, hb⟩ => ⟨_, he, ?_⟩
  exact Base.law_post (tb := 4) Base.laidOut (by kernel_rfl) rfl Try.underlying4 rfl (fun l hl => by
    rw [Try.params3] at hl
    match l, hl with
    | [_, _, _], _ => rfl) (by rw [Try.params3]; rfl) hW0 hb

theorem laid_met (os : Os) : laidMet Try.prog Rows.itemRightsRow.laid ((Base.plainWorld os).forCall (fun _ _ => 0) ⟨#[], #[.agg #[.int .i64 0, .int .i64 0, .int .i64 0], .agg #[.int .i64 0, .int .i64 0, .int .i64 0], .agg #[.slice none 0 0, .slice none 0 0]], []⟩).memory := laidMet_nil _ _
theorem reads (os : Os) {H : Type} (enc : TypeId × Value → H) : ∃ places, DataW.whole enc Try.prog ((Base.plainWorld os).forCall (fun _ _ => 0) ⟨#[], #[.agg #[.int .i64 0, .int .i64 0, .int .i64 0], .agg #[.int .i64 0, .int .i64 0, .int .i64 0], .agg #[.slice none 0 0, .slice none 0 0]], []⟩).memory Try.f3.params.toList Rows.itemRightsSpec.vars false (#[.agg #[.int .i64 0, .int .i64 0, .int .i64 0], .agg #[.int .i64 0, .int .i64 0, .int .i64 0], .agg #[.slice none 0 0, .slice none 0 0]] : Array Value).toList 8 = some ([.agg [.lit (.int .i64 0), .lit (.int .i64 0), .lit (.int .i64 0)], .agg [.lit (.int .i64 0), .lit (.int .i64 0), .lit (.int .i64 0)], .agg [.nil, .nil]], [], places) :=
  ⟨[], by kernel_rfl⟩

set_option maxRecDepth 100000 in
theorem lifted (os : Os) (started : os.Started) (H : Type) (enc : TypeId × Value → H) (F : Stop.Interp) :
    ReturnsInHanded {} Try.checked os 3 .any ((OpenSpec.ofChange Rows.itemRightsSpec).preRow enc Try.prog Try.f3 Rows.itemRightsRow.domain false Rows.itemRightsRow.laid) (((OpenSpec.ofChange Rows.itemRightsSpec).at F).post enc Try.prog Try.f3 false true false false) := by
  obtain ⟨places, hx⟩ := reads os enc
  refine returnsInHanded_of_row (C := Try.checked) (s := OpenSpec.ofChange Rows.itemRightsSpec) Base.own started (by kernel_rfl) Try.func3
    (witness_row_at (enc := enc) (C := Try.checked) false (Base.plainWorld os) #[.agg #[.int .i64 0, .int .i64 0, .int .i64 0], .agg #[.int .i64 0, .int .i64 0, .int .i64 0], .agg #[.slice none 0 0, .slice none 0 0]] rfl (by kernel_rfl) (by kernel_rfl) (by kernel_rfl)
      (OpenSpec.preRow_of_cond 8 hx (by kernel_rfl) (fun k hk => by cases hk) (by kernel_rfl) (laid_met os))) ?_
  intro W base args ds gs before hval hW _ _ hsz _ _ _
  exact contract H enc W base args ds gs before hval hW hsz

theorem said : Rows.ItemRightsSaid :=
  OpenClaim.holds_of_cond 3 Try.f3 rfl rfl rfl rfl rfl rfl rfl ⟨rfl, rfl, rfl, rfl, rfl⟩ rfl rfl rfl rfl rfl (by kernel_rfl) Try.func3 (by kernel_rfl)
    (of_decide_eq_true (by kernel_rfl)) (by unfold Func.isWrapper; rw [if_neg (of_decide_eq_false (by kernel_rfl))]; exact ⟨rfl, rfl⟩)
    (fun os started H enc _ F => by rw [OpenClaim.pre_eq_preRow]; exact lifted os started H enc F)
#print axioms said
end Go.Proofs.Ytphgnglbniclgaa.ItemRights
