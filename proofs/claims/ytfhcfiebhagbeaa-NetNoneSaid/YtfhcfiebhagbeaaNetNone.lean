/-
  NetNone is proved: a net that isn't there loses all. Conditions: none.
-/
import Derived.Test.YtfhcfiebhagbeaaNetAwk
import Derived.Test.YtfhcfiebhagbeaaReg4
namespace Go.Proofs.Ytfhcfiebhagbeaa.NetNone
set_option maxRecDepth 100000
open Go.ChangeShapes Go.WideShapes Go.ChangeAt Go.RowKit Go.Deep Go.Proofs.Ytfhcfiebhagbeaa.Mem Go.Proofs.Ytfhcfiebhagbeaa.Net

def netNone (b : Nat) (o : Opk) : Nat → Value → World → Prop
  | 0, v, _ => v = .pointer none
  | 1, v, _ => v = .pointer (some ⟨b, 3, none⟩)
  | 2, v, _ => v = .slice o.A o.l.length o.c
  | 3, v, _ => v = .int .i64 o.l.length
  | 4, v, _ => v = .pointer (some ⟨b, 3, none⟩)
  | 5, v, _ => v = .slice o.A o.l.length o.c
  | 6, v, _ => v = .int .i64 o.l.length
  | 7, v, _ => v = .bool true
  | 8, v, _ => v = .bool true
  | 9, v, _ => v = .agg #[.int .i64 0, .int .i64 0, .string ⟨#[]⟩, .bool false]
  | 10, v, _ => v = .agg #[.int .i64 0, .int .i64 0, .string ⟨#[]⟩, .bool false]
  | 11, v, _ => v = .bool true
  | 12, v, _ => v = .bool true
  | 13, v, _ => v = .bool true
  | 14, v, _ => v = .int .i64 8
  | 15, v, _ => v = .bool true
  | 16, v, _ => v = .bool true
  | 17, v, _ => v = .bool true
  | 18, v, _ => v = .pointer none
  | 19, v, _ => v = .pointer (some ⟨b, 1, none⟩)
  | 20, v, _ => v = .int .i64 o.a
  | 21, v, _ => v = .int .i64 8
  | 22, v, _ => v = .bool true
  | 23, v, _ => v = .bool true
  | 24, v, _ => v = .bool true
  | 25, v, _ => v = .pointer none
  | 26, v, _ => v = .pointer (some ⟨b, 1, none⟩)
  | 27, v, _ => v = .int .i64 o.a
  | 28, v, _ => v = .int .i64 8
  | 29, v, _ => v = .bool true
  | 30, v, _ => v = .bool true
  | 31, v, _ => v = .bool true
  | 32, v, _ => v = .pointer none
  | 33, v, _ => v = .pointer (some ⟨b, 1, none⟩)
  | 34, v, _ => v = .int .i64 o.a
  | 35, v, _ => v = .pointer (some ⟨b, 2, none⟩)
  | 36, v, _ => v = .int .i64 o.b
  | 37, v, _ => v = .int .i64 1
  | 38, v, _ => v = .bool true
  | 39, v, _ => v = .bool true
  | 40, v, _ => v = .bool true
  | 41, v, _ => v = .pointer none
  | 42, v, _ => v = .pointer (some ⟨b, 1, none⟩)
  | 43, v, _ => v = .int .i64 o.a
  | 44, v, _ => v = .pointer (some ⟨b, 2, none⟩)
  | 45, v, _ => v = .int .i64 o.b
  | 46, v, _ => v = .int .i64 1
  | 47, v, _ => v = .bool true
  | 48, v, _ => v = .bool true
  | 49, v, _ => v = .bool true
  | 50, v, _ => v = .pointer none
  | 51, v, _ => v = .int .i64 0
  | 52, v, _ => v = .bool true
  | 53, v, _ => v = .bool true
  | 54, v, _ => v = .bool true
  | 55, v, _ => v = .pointer none
  | 56, v, _ => v = .slice none 0 0
  | 57, v, _ => v = .int .i64 0
  | 58, v, _ => v = .bool true
  | 59, v, _ => v = .bool true
  | 60, v, _ => v = .bool true
  | _, _, _ => True
set_option maxHeartbeats 2000000 in
theorem walk (o : Opk) (w : World) (h : o.Ok w) :
    Calls Try.prog 5 #[.agg #[.int .i64 o.k, .int .i64 o.a, .int .i64 o.b, .slice o.A o.l.length o.c]] w fun e w' => e = .returned (.bool true) ∧ Below w.heap.size w w' := by
  obtain ⟨wb, hwb⟩ : ∃ W, W = w.alloc (.cells #[.int .i64 o.k, .int .i64 o.a, .int .i64 o.b, .slice o.A o.l.length o.c] 33) := ⟨_, rfl⟩
  have hb : Below w.heap.size w wb := by rw [hwb]; exact below_alloc _ _
  have hc : Cells wb w.heap.size 33 o.vals := by rw [hwb]; exact cells_new _ _ _ _ rfl
  have HC := Lib.hid (awake_any wb)
  have HB := Lib.hid hb
  have HOC := Lib.hid hc
  have HH := Lib.hid (h.later hb)
  clear h hb hc
  go_enter Try.func5, Try.ntmps5
  go_wp2_with fail
  rw [← hwb]
  clear hwb
  refine HC.out.mono ?_
  rintro e w1 ⟨rfl, hb1⟩
  have HB1 := Lib.hid (HB.out.trans (hb1.mono HB.out.size))
  have HOC1 := Lib.hid (HOC.out.later hb1)
  have HH1 := Lib.hid (HH.out.later hb1)
  have x0 := HOC1.out.cell (j := 0) rfl
  have x1 := HOC1.out.cell (j := 1) rfl
  have x2 := HOC1.out.cell (j := 2) rfl
  have x3 := HOC1.out.cell (j := 3) rfl
  clear hb1 HC HB HOC HH
  obtain ⟨w2, hw2⟩ : ∃ W, W = w1.alloc (.cells #[.int .i64 o.k, .int .i64 o.a, .int .i64 o.b, .slice o.A o.l.length o.c] 33) := ⟨_, rfl⟩
  have hb2 : Below w1.heap.size w1 w2 := by rw [hw2]; exact below_alloc _ _
  have hc2 : Cells w2 w1.heap.size 33 o.vals := by rw [hw2]; exact cells_new _ _ _ _ rfl
  have HG := Lib.hid (great_any (some ⟨w1.heap.size, 0, none⟩) [o] 1 w2 ⟨cells_sl (vs := [o.vals]) (by simpa using hc2) (fun v hv => by rw [List.mem_singleton.1 hv]; rfl), fun q hq => by rw [List.mem_singleton.1 hq]; exact HH1.out.later hb2⟩ (by simp))
  have HB2 := Lib.hid (HB1.out.trans (hb2.mono HB1.out.size))
  have HOC2 := Lib.hid (HOC1.out.later hb2)
  clear hb2 hc2 HB1 HOC1 HH1
  go_wp2_with fail
  rw [← hw2]
  clear hw2 x0 x1 x2 x3
  refine HG.out.mono ?_
  rintro e w3 ⟨rfl, hb3⟩
  have HB3 := Lib.hid (HB2.out.trans (hb3.mono HB2.out.size))
  have HOC3 := Lib.hid (HOC2.out.later hb3)
  clear hb3 HG HB2 HOC2
  cases greatN [o]
  · go_wp2_with fail
    refine (HealAll_nil w3).mono ?_
    rintro e w4 ⟨rfl, rfl⟩
    have x1 := HOC3.out.cell (j := 1) rfl
    go_wp2_with fail
    refine (Take_nil w4 o.a).mono ?_
    rintro e w5 ⟨rfl, hb4⟩
    have HB4 := Lib.hid (HB3.out.trans (hb4.mono HB3.out.size))
    have HOC4 := Lib.hid (HOC3.out.later hb4)
    clear hb4 HB3 HOC3 x1
    unfold pk0 Pk.val
    obtain ⟨we, hwe⟩ : ∃ W, W = w5.alloc (.cells #[.int .i64 0, .int .i64 0, .string ⟨#[]⟩, .bool false] 39) := ⟨_, rfl⟩
    have hbe : Below w5.heap.size w5 we := by rw [hwe]; exact below_alloc _ _
    have HPC : Hid (Cells we w5.heap.size 39 [.int .i64 0, .int .i64 0, .string ⟨#[]⟩, .bool false]) := Lib.hid (by rw [hwe]; exact cells_new _ _ _ _ rfl)
    have HBE := Lib.hid (HB4.out.trans (hbe.mono HB4.out.size))
    have HOC := Lib.hid (HOC4.out.later hbe)
    clear hbe HB4 HOC4
    go_wp2_with fail
    rw [← hwe]
    clear hwe
    refine Reg.region_heavy (by kernel_rfl) 60 [60] (netNone w.heap.size o) (fun a => Below we.heap.size we a) (fun a => Below we.heap.size we a) (fun V => [(some 20, V 0), (some 21, V 1), (some 22, V 2), (some 23, V 3), (some 24, V 4), (some 25, V 5), (some 26, V 6), (some 27, V 7), (some 28, V 8), (some 29, V 9), (some 30, V 10), (some 31, V 11), (some 32, V 12), (some 33, V 13), (some 34, V 14), (some 35, V 15), (some 36, V 16), (some 37, V 17), (some 38, V 18), (some 39, V 19), (some 40, V 20), (some 41, V 21), (some 42, V 22), (some 43, V 23), (some 44, V 24), (some 45, V 25), (some 46, V 26), (some 47, V 27), (some 48, V 28), (some 49, V 29), (some 50, V 30), (some 51, V 31), (some 52, V 32), (some 53, V 33), (some 54, V 34), (some 55, V 35), (some 56, V 36), (some 57, V 37), (some 58, V 38), (some 59, V 39), (some 60, V 40), (some 61, V 41), (some 62, V 42), (some 63, V 43), (some 64, V 44), (some 65, V 45), (some 66, V 46), (some 67, V 47), (some 68, V 48), (some 69, V 49), (some 70, V 50), (some 71, V 51), (some 72, V 52), (some 73, V 53), (some 74, V 54), (some 75, V 55), (some 76, V 56), (some 77, V 57), (some 78, V 58), (some 79, V 59), (some 2, V 60)]) (by kernel_rfl) (by kernel_rfl) (by kernel_rfl) (fun V => rfl) ?_ ?_ ?_
    · exact (Below.refl _ _).drew
    · intro i o ho
      have hi : i < 61 := (Array.getElem?_eq_some_iff.1 ho).1
      rcases i with _ | _ | _ | _ | _ | _ | _ | _ | _ | _ | _ | _ | _ | _ | _ | _ | _ | _ | _ | _ | _ | _ | _ | _ | _ | _ | _ | _ | _ | _ | _ | _ | _ | _ | _ | _ | _ | _ | _ | _ | _ | _ | _ | _ | _ | _ | _ | _ | _ | _ | _ | _ | _ | _ | _ | _ | _ | _ | _ | _ | _ | i
      rotate_right
      · omega
      all_goals obtain rfl := Option.some.inj ho
      all_goals intro ρ wi hE hI hs hd
      all_goals try dsimp only at hI
      · have e3 : ρ (.tmp 3) = .pointer none := hs 3; exact Reg.gw hI
      · have e1 : ρ (.tmp 1) = .pointer (some ⟨w.heap.size, 0, none⟩) := hs 1; exact Reg.gw hI
      · obtain ⟨_, rfl, e21⟩ := hd 1 21; have x0 := (HOC.out.later hI).cell (j := 3) rfl; exact Reg.gw hI
      · obtain ⟨_, rfl, e20⟩ := hd 0 20; obtain ⟨_, rfl, e22⟩ := hd 2 22; have hf := hE.func
        refine Reg.Gives.call (f := 11) (args := #[.pointer none, .slice o.A o.l.length o.c]) (w' := wi) (by go_simp) ?_
        refine (Send_nil o.A o.l.length o.c wi).mono ?_
        rintro e w'' ⟨rfl, rfl⟩
        exact ⟨_, rfl, Reg.OwedH.same hI rfl⟩
      · have e1 : ρ (.tmp 1) = .pointer (some ⟨w.heap.size, 0, none⟩) := hs 1; exact Reg.gw hI
      · obtain ⟨_, rfl, e24⟩ := hd 4 24; have x0 := (HOC.out.later hI).cell (j := 3) rfl; exact Reg.gw hI
      · obtain ⟨_, rfl, e25⟩ := hd 5 25; exact Reg.gw hI
      · obtain ⟨_, rfl, e23⟩ := hd 3 23; obtain ⟨_, rfl, e26⟩ := hd 6 26; exact Reg.gw hI
      · obtain ⟨_, rfl, e27⟩ := hd 7 27; exact Reg.gw hI
      · have e4 : ρ (.tmp 4) = .pointer (some ⟨w5.heap.size, 0, none⟩) := hs 4
        refine Reg.yes ?_
        have x0 := (HPC.out.later hI).cell (j := 0) rfl; have x1 := (HPC.out.later hI).cell (j := 1) rfl; have x2 := (HPC.out.later hI).cell (j := 2) rfl; have x3 := (HPC.out.later hI).cell (j := 3) rfl; exact Reg.gw hI
      · refine Reg.yes ?_
        exact Reg.gw hI
      · obtain ⟨_, rfl, e29⟩ := hd 9 29; obtain ⟨_, rfl, e30⟩ := hd 10 30
        refine Reg.yes ?_
        exact Reg.gw hI
      · obtain ⟨_, rfl, e28⟩ := hd 8 28; obtain ⟨_, rfl, e31⟩ := hd 11 31; have hc := hE.const; exact Reg.gw hI
      · obtain ⟨_, rfl, e32⟩ := hd 12 32; exact Reg.gw hI
      · have e5 : ρ (.tmp 5) = .int .i64 8 := hs 5
        refine Reg.yes ?_
        exact Reg.gw hI
      · obtain ⟨_, rfl, e34⟩ := hd 14 34; have hc := hE.const
        refine Reg.yes ?_
        exact Reg.gw hI
      · obtain ⟨_, rfl, e33⟩ := hd 13 33; obtain ⟨_, rfl, e35⟩ := hd 15 35; have hc := hE.const; exact Reg.gw hI
      · obtain ⟨_, rfl, e36⟩ := hd 16 36; exact Reg.gw hI
      · have e3 : ρ (.tmp 3) = .pointer none := hs 3
        refine Reg.yes ?_
        exact Reg.gw hI
      · have e1 : ρ (.tmp 1) = .pointer (some ⟨w.heap.size, 0, none⟩) := hs 1
        refine Reg.yes ?_
        exact Reg.gw hI
      · obtain ⟨_, rfl, e39⟩ := hd 19 39
        refine Reg.yes ?_
        have x0 := (HOC.out.later hI).cell (j := 1) rfl; exact Reg.gw hI
      · obtain ⟨_, rfl, e38⟩ := hd 18 38; obtain ⟨_, rfl, e40⟩ := hd 20 40; have hf := hE.func
        refine Reg.yes ?_
        refine Reg.Gives.call (f := 16) (args := #[.pointer none, .int .i64 o.a]) (w' := wi) (by go_simp) ?_
        refine (Double_nil wi o.a).mono ?_
        rintro e w'' ⟨rfl, rfl⟩
        exact ⟨_, rfl, Reg.OwedH.same hI rfl⟩
      · obtain ⟨_, rfl, e41⟩ := hd 21 41; have hc := hE.const
        refine Reg.yes ?_
        exact Reg.gw hI
      · obtain ⟨_, rfl, e37⟩ := hd 17 37; obtain ⟨_, rfl, e42⟩ := hd 22 42; have hc := hE.const; exact Reg.gw hI
      · obtain ⟨_, rfl, e43⟩ := hd 23 43; exact Reg.gw hI
      · have e3 : ρ (.tmp 3) = .pointer none := hs 3
        refine Reg.yes ?_
        exact Reg.gw hI
      · have e1 : ρ (.tmp 1) = .pointer (some ⟨w.heap.size, 0, none⟩) := hs 1
        refine Reg.yes ?_
        exact Reg.gw hI
      · obtain ⟨_, rfl, e46⟩ := hd 26 46
        refine Reg.yes ?_
        have x0 := (HOC.out.later hI).cell (j := 1) rfl; exact Reg.gw hI
      · obtain ⟨_, rfl, e45⟩ := hd 25 45; obtain ⟨_, rfl, e47⟩ := hd 27 47; have hc := hE.const; have hf := hE.func
        refine Reg.yes ?_
        refine Reg.Gives.call (f := 22) (args := #[.pointer none, .int .i64 o.a, .int .i64 0, .int .u8 1]) (w' := wi) (by go_simp) ?_
        refine (Spoil_nil wi o.a _ _).mono ?_
        rintro e w'' ⟨rfl, rfl⟩
        exact ⟨_, rfl, Reg.OwedH.same hI rfl⟩
      · obtain ⟨_, rfl, e48⟩ := hd 28 48; have hc := hE.const
        refine Reg.yes ?_
        exact Reg.gw hI
      · obtain ⟨_, rfl, e44⟩ := hd 24 44; obtain ⟨_, rfl, e49⟩ := hd 29 49; have hc := hE.const; exact Reg.gw hI
      · obtain ⟨_, rfl, e50⟩ := hd 30 50; exact Reg.gw hI
      · have e3 : ρ (.tmp 3) = .pointer none := hs 3
        refine Reg.yes ?_
        exact Reg.gw hI
      · have e1 : ρ (.tmp 1) = .pointer (some ⟨w.heap.size, 0, none⟩) := hs 1
        refine Reg.yes ?_
        exact Reg.gw hI
      · obtain ⟨_, rfl, e53⟩ := hd 33 53
        refine Reg.yes ?_
        have x0 := (HOC.out.later hI).cell (j := 1) rfl; exact Reg.gw hI
      · have e1 : ρ (.tmp 1) = .pointer (some ⟨w.heap.size, 0, none⟩) := hs 1
        refine Reg.yes ?_
        exact Reg.gw hI
      · obtain ⟨_, rfl, e55⟩ := hd 35 55
        refine Reg.yes ?_
        have x0 := (HOC.out.later hI).cell (j := 2) rfl; exact Reg.gw hI
      · obtain ⟨_, rfl, e52⟩ := hd 32 52; obtain ⟨_, rfl, e54⟩ := hd 34 54; obtain ⟨_, rfl, e56⟩ := hd 36 56; have hf := hE.func
        refine Reg.yes ?_
        refine Reg.Gives.call (f := 18) (args := #[.pointer none, .int .i64 o.a, .int .i64 o.b]) (w' := wi) (by go_simp) ?_
        refine (Cut_nil wi _ _).mono ?_
        rintro e w'' ⟨rfl, rfl⟩
        exact ⟨_, rfl, Reg.OwedH.same hI rfl⟩
      · obtain ⟨_, rfl, e57⟩ := hd 37 57; have hc := hE.const
        refine Reg.yes ?_
        exact Reg.gw hI
      · obtain ⟨_, rfl, e51⟩ := hd 31 51; obtain ⟨_, rfl, e58⟩ := hd 38 58; have hc := hE.const; exact Reg.gw hI
      · obtain ⟨_, rfl, e59⟩ := hd 39 59; exact Reg.gw hI
      · have e3 : ρ (.tmp 3) = .pointer none := hs 3
        refine Reg.yes ?_
        exact Reg.gw hI
      · have e1 : ρ (.tmp 1) = .pointer (some ⟨w.heap.size, 0, none⟩) := hs 1
        refine Reg.yes ?_
        exact Reg.gw hI
      · obtain ⟨_, rfl, e62⟩ := hd 42 62
        refine Reg.yes ?_
        have x0 := (HOC.out.later hI).cell (j := 1) rfl; exact Reg.gw hI
      · have e1 : ρ (.tmp 1) = .pointer (some ⟨w.heap.size, 0, none⟩) := hs 1
        refine Reg.yes ?_
        exact Reg.gw hI
      · obtain ⟨_, rfl, e64⟩ := hd 44 64
        refine Reg.yes ?_
        have x0 := (HOC.out.later hI).cell (j := 2) rfl; exact Reg.gw hI
      · obtain ⟨_, rfl, e61⟩ := hd 41 61; obtain ⟨_, rfl, e63⟩ := hd 43 63; obtain ⟨_, rfl, e65⟩ := hd 45 65; have hf := hE.func
        refine Reg.yes ?_
        refine Reg.Gives.call (f := 20) (args := #[.pointer none, .int .i64 o.a, .int .i64 o.b]) (w' := wi) (by go_simp) ?_
        refine (Heal_nil wi _ _).mono ?_
        rintro e w'' ⟨rfl, rfl⟩
        exact ⟨_, rfl, Reg.OwedH.same hI rfl⟩
      · obtain ⟨_, rfl, e66⟩ := hd 46 66; have hc := hE.const
        refine Reg.yes ?_
        exact Reg.gw hI
      · obtain ⟨_, rfl, e60⟩ := hd 40 60; obtain ⟨_, rfl, e67⟩ := hd 47 67; have hc := hE.const; exact Reg.gw hI
      · obtain ⟨_, rfl, e68⟩ := hd 48 68; exact Reg.gw hI
      · have e3 : ρ (.tmp 3) = .pointer none := hs 3
        refine Reg.yes ?_
        exact Reg.gw hI
      · obtain ⟨_, rfl, e70⟩ := hd 50 70; have hf := hE.func
        refine Reg.yes ?_
        refine Reg.Gives.call (f := 24) (args := #[.pointer none]) (w' := wi) (by go_simp) ?_
        refine (Len_nil wi).mono ?_
        rintro e w'' ⟨rfl, rfl⟩
        exact ⟨_, rfl, Reg.OwedH.same hI rfl⟩
      · obtain ⟨_, rfl, e71⟩ := hd 51 71; have hc := hE.const
        refine Reg.yes ?_
        exact Reg.gw hI
      · obtain ⟨_, rfl, e69⟩ := hd 49 69; obtain ⟨_, rfl, e72⟩ := hd 52 72; have hc := hE.const; exact Reg.gw hI
      · obtain ⟨_, rfl, e73⟩ := hd 53 73; exact Reg.gw hI
      · have e3 : ρ (.tmp 3) = .pointer none := hs 3
        refine Reg.yes ?_
        exact Reg.gw hI
      · obtain ⟨_, rfl, e75⟩ := hd 55 75; have hf := hE.func
        refine Reg.yes ?_
        refine Reg.Gives.call (f := 26) (args := #[.pointer none]) (w' := wi) (by go_simp) ?_
        refine (All_nil wi).mono ?_
        rintro e w'' ⟨rfl, rfl⟩
        exact ⟨_, rfl, Reg.OwedH.same hI rfl⟩
      · obtain ⟨_, rfl, e76⟩ := hd 56 76
        refine Reg.yes ?_
        exact Reg.gw hI
      · obtain ⟨_, rfl, e77⟩ := hd 57 77; have hc := hE.const
        refine Reg.yes ?_
        exact Reg.gw hI
      · obtain ⟨_, rfl, e74⟩ := hd 54 74; obtain ⟨_, rfl, e78⟩ := hd 58 78; have hc := hE.const; exact Reg.gw hI
      · obtain ⟨_, rfl, e79⟩ := hd 59 79; exact Reg.gw hI
    · intro V wf hV hI
      have hV60 : V 60 = .bool true := hV 60 (by decide) rfl
      simp only [Reg.putsO, List.foldl_cons, List.foldl_nil, Act.put, List.setIfInBounds_toArray, List.set_cons_succ, List.set_cons_zero, hV60]
      replace hI : (fun a => Below we.heap.size we a) wf := hI
      clear hV hV60
      have HBF := Lib.hid (HBE.out.trans (hI.mono HBE.out.size))
      clear hI
      go_wp2_with fail
      go_returns
      exact ⟨rfl, HBF.out⟩
  · go_wp2_with fail
    go_returns
    exact ⟨rfl, HB3.out⟩

theorem opened {H : Type} {enc : TypeId × Value → H} {W : World} {base : Nat} {gs : List (DataW H)} (v0 : Value) (d0 : DataW H) (p0 : List MemPlace)
    (o0 : Value.okWide Try.prog W .any base 33 v0) (t0 : DataW.Trod enc Try.prog W 0 (fun _ => true) true 33 v0 d0 p0)
    (hsz : (DataW.weightsEach Try.prog ([33] ++ []) ([d0] ++ gs)).all (· ≤ reachBytes) = true) :
    Calls Try.prog 5 #[v0] W fun e W' => e = .returned (.bool true) ∧ Below W.heap.size W W' := by
  obtain ⟨fs, hst, hs, hone⟩ := oneOp
  obtain ⟨cs, rfl, hf⟩ := fields_arg o0 t0 (Base.small_of hsz (j := 0) rfl rfl) hst hone (by rw [hs]; exact cellsOp)
  obtain ⟨o, rfl, ho⟩ := fields_op hst hf
  exact walk o W ho

theorem contract (H : Type) (enc : TypeId × Value → H) (W : World) (base : Nat) (args : Array Value) (ds gs : List (DataW H)) (before : List MemPlace)
    (hval : ∀ (j : Nat) t v, Try.f5.params[j]? = some t → args[j]? = some v → Value.okWide Try.prog W .any base t v)
    (hW : DataW.Whole enc Try.prog Try.f5.params.toList Rows.netNoneSpec.vars false W args.toList ds gs before)
    (hsz : (DataW.weightsEach Try.prog (Try.f5.params.toList ++ []) (ds ++ gs)).all (· ≤ reachBytes) = true) :
    Calls Try.prog 5 args W fun e W' => ∃ v, e = .returned v ∧ Rows.netNoneSpec.post enc Try.prog Try.f5 false true false false W args v W' := by
  have hW0 := hW
  obtain ⟨p, q, hA0, hV, rfl, _, _⟩ := hW
  have hA : DataW.TrodAll enc Try.prog W 0 (fun _ => true) true Try.f5.params.toList args.toList ds p := hA0
  rw [Try.params5] at hA hval hsz
  obtain ⟨v0, vs0, d0, ds0, p0, q0, hargs, rfl, rfl, h0, r0⟩ := trodAll_cons hA
  obtain ⟨rfl, rfl, rfl⟩ := trodAll_nil r0
  obtain rfl : args = #[v0] := by cases args; simp_all
  refine (opened v0 d0 p0 (hval 0 33 v0 rfl rfl) h0 hsz).mono fun e W' ⟨he, hb⟩ => ⟨_, he, ?_⟩
  exact Base.law_post (tb := 4) Base.laidOut (by kernel_rfl) rfl Try.underlying4 rfl (fun l hl => by
    rw [Try.params5] at hl
    match l, hl with
    | [_], _ => rfl) (by rw [Try.params5]; rfl) hW0 hb

theorem laid_met (os : Os) : laidMet Try.prog Rows.netNoneRow.laid ((Base.plainWorld os).forCall (fun _ _ => 0) ⟨#[], #[.agg #[.int .i64 0, .int .i64 0, .int .i64 0, .slice none 0 0]], []⟩).memory := laidMet_nil _ _
theorem reads (os : Os) {H : Type} (enc : TypeId × Value → H) : ∃ places, DataW.whole enc Try.prog ((Base.plainWorld os).forCall (fun _ _ => 0) ⟨#[], #[.agg #[.int .i64 0, .int .i64 0, .int .i64 0, .slice none 0 0]], []⟩).memory Try.f5.params.toList Rows.netNoneSpec.vars false (#[.agg #[.int .i64 0, .int .i64 0, .int .i64 0, .slice none 0 0]] : Array Value).toList 8 = some ([.agg [.lit (.int .i64 0), .lit (.int .i64 0), .lit (.int .i64 0), .nil]], [], places) :=
  ⟨[], by kernel_rfl⟩

set_option maxRecDepth 100000 in
theorem lifted (os : Os) (started : os.Started) (H : Type) (enc : TypeId × Value → H) (F : Stop.Interp) :
    ReturnsInHanded {} Try.checked os 5 .any ((OpenSpec.ofChange Rows.netNoneSpec).preRow enc Try.prog Try.f5 Rows.netNoneRow.domain false Rows.netNoneRow.laid) (((OpenSpec.ofChange Rows.netNoneSpec).at F).post enc Try.prog Try.f5 false true false false) := by
  obtain ⟨places, hx⟩ := reads os enc
  refine returnsInHanded_of_row (C := Try.checked) (s := OpenSpec.ofChange Rows.netNoneSpec) Base.own started (by kernel_rfl) Try.func5
    (witness_row_at (enc := enc) (C := Try.checked) false (Base.plainWorld os) #[.agg #[.int .i64 0, .int .i64 0, .int .i64 0, .slice none 0 0]] rfl (by kernel_rfl) (by kernel_rfl) (by kernel_rfl)
      (OpenSpec.preRow_of_cond 8 hx (by kernel_rfl) (fun k hk => by cases hk) (by kernel_rfl) (laid_met os))) ?_
  intro W base args ds gs before hval hW _ _ hsz _ _ _
  exact contract H enc W base args ds gs before hval hW hsz

theorem said : Rows.NetNoneSaid :=
  OpenClaim.holds_of_cond 5 Try.f5 rfl rfl rfl rfl rfl rfl rfl ⟨rfl, rfl, rfl, rfl, rfl⟩ rfl rfl rfl rfl rfl (by kernel_rfl) Try.func5 (by kernel_rfl)
    (of_decide_eq_true (by kernel_rfl)) (by unfold Func.isWrapper; rw [if_neg (of_decide_eq_false (by kernel_rfl))]; exact ⟨rfl, rfl⟩)
    (fun os started H enc _ F => by rw [OpenClaim.pre_eq_preRow]; exact lifted os started H enc F)
#print axioms said
end Go.Proofs.Ytfhcfiebhagbeaa.NetNone
