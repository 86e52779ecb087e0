/-
  Layer 14, the document's session: Other, data, Same; a peer of it turned. Conditions: none.
-/
import Derived.Test.YtjfejfhdohpfbaaSesRef1
import Derived.Laws.StructEq
import Derived.BigRegion
namespace Go.Proofs.Ytjfejfhdohpfbaa.Ses
set_option maxRecDepth 100000
open Go.RowKit Go.Deep Go.Proofs.Ytjfejfhdohpfbaa.Mem Go.Proofs.Ytjfejfhdohpfbaa.Win

def sesRD1 (rb pb i n pc g : Nat) (x ep kn sq : Int) (py : ByteArray) : Nat → Value → World → Prop
  | 0, v, _ => v = .int .i64 x
  | 1, v, _ => v = .pointer (some ⟨rb, 0, none⟩)
  | 2, v, _ => v = .pointer (some ⟨rb, 0, none⟩)
  | 3, v, _ => v = .pointer (some ⟨rb, 1, none⟩)
  | 4, v, _ => v = .int .i64 ep
  | 5, v, _ => v = .pointer (some ⟨rb, 0, none⟩)
  | 6, v, _ => v = .pointer (some ⟨rb, 0, none⟩)
  | 7, v, _ => v = .pointer (some ⟨rb, 2, none⟩)
  | 8, v, _ => v = .slice (some ⟨pb, 0, none⟩) n pc
  | 9, v, _ => v = .int .i64 x
  | 10, v, _ => v = .int .i64 (i : Int)
  | 11, v, _ => v = .pointer (some ⟨pb, i * 4, none⟩)
  | 12, v, _ => v = .pointer (some ⟨pb, i * 4 + 1, none⟩)
  | 13, v, _ => v = .int .i64 kn
  | 14, v, _ => v = .pointer (some ⟨g, 0, none⟩)
  | 15, v, _ => v = .int .i64 sq
  | 16, v, _ => v = .pointer (some ⟨g, 1, none⟩)
  | 17, v, _ => v = .string py
  | 18, v, _ => v = .agg #[.int .i64 1, .int .i64 ep, .int .i64 kn, .int .i64 sq, .string py]
  | 19, v, _ => v = .agg #[.int .i64 x, .int .i64 1, .int .i64 ep, .int .i64 kn, .int .i64 sq, .string py]
  | 20, _, _ => True
  | _, _, _ => True
theorem sesRD1_later {rb pb i n pc g : Nat} {x ep kn sq : Int} {py : ByteArray} {j : Nat} {v : Value} {w w' : World} (_hb : Below w.heap.size w w') (h : sesRD1 rb pb i n pc g x ep kn sq py j v w) : sesRD1 rb pb i n pc g x ep kn sq py j v w' := by
  match j, h with
  | 0, h | 1, h | 2, h | 3, h | 4, h | 5, h | 6, h | 7, h | 8, h | 9, h | 10, h | 11, h | 12, h | 13, h | 14, h | 15, h | 16, h | 17, h | 18, h | 19, h | 20, h => exact h
  | _ + 21, _ => exact trivial
theorem sesRD1_keep {rb pb i n pc g : Nat} {x ep kn sq : Int} {py : ByteArray} {j : Nat} {v : Value} {w w' : World}  (h : sesRD1 rb pb i n pc g x ep kn sq py j v w) : sesRD1 rb pb i n pc g x ep kn sq py j v w' := by
  match j, h with
  | 0, h | 1, h | 2, h | 3, h | 4, h | 5, h | 6, h | 7, h | 8, h | 9, h | 10, h | 11, h | 12, h | 13, h | 14, h | 15, h | 16, h | 17, h | 18, h | 19, h | 20, h => exact h
  | _ + 21, _ => exact trivial
section
variable {B rb pb pc : Nat} {F T : Nat → Prop} {w w1 w' : World} {S S' : Sm} {As Ds : Nat → Option Addr} {cs ds : Nat → Nat}
theorem ROther_any (h : RAtX B F w rb S pb pc As cs Ds ds) (x : Int) : Calls Try.prog 25 #[.pointer (some ⟨rb, 0, none⟩), .int .i64 x] w fun e w' => e = .returned (.bool (other S x)) ∧ w' = w := by
  have c0 := h.cel.cell (j := 0) rfl
  have c2 := h.cel.cell (j := 2) rfl
  unfold other
  obtain ⟨n, hn⟩ : ∃ n, S.peers.length = n := ⟨_, rfl⟩
  obtain ⟨nd, hnd⟩ : ∃ n, S.node = n := ⟨_, rfl⟩
  rw [hnd] at c0 ⊢
  rw [hn] at c2 ⊢
  clear h hn hnd
  by_cases h1 : x = nd
  · subst h1
    rw [decide_eq_false (fun h => h.1 rfl)]
    go_enter Try.func25, Try.ntmps25
    go_wp2_with fail
    go_returns
    exact ⟨rfl, rfl⟩
  · have e1 : (x == nd) = false := by simpa using h1
    have e0 : (x != nd) = true := by simpa using h1
    by_cases h2 : 1 ≤ x
    · by_cases h3 : x ≤ (n : Int)
      · rw [decide_eq_true ⟨h1, h2, h3⟩]
        have e2 : decide (1 ≤ x) = true := decide_eq_true h2
        have e3 : decide (x ≤ (n : Int)) = true := decide_eq_true h3
        go_enter Try.func25, Try.ntmps25
        go_wp2_with fail
        go_returns
        exact ⟨rfl, rfl⟩
      · rw [decide_eq_false (fun h => h3 h.2.2)]
        have e2 : decide (1 ≤ x) = true := decide_eq_true h2
        have e3 : decide (x ≤ (n : Int)) = false := decide_eq_false h3
        go_enter Try.func25, Try.ntmps25
        go_wp2_with fail
        go_returns
        exact ⟨rfl, rfl⟩
    · rw [decide_eq_false (fun h => h2 h.2.1)]
      have e2 : decide (1 ≤ x) = false := decide_eq_false h2
      go_enter Try.func25, Try.ntmps25
      go_wp2_with fail
      go_returns
      exact ⟨rfl, rfl⟩
theorem ot_neq (a b c d f : Int) (s : ByteArray) (w : World) : (binOp .neq 121 (.agg #[.int .i64 a, .int .i64 b, .int .i64 c, .int .i64 d, .int .i64 f, .string s]) (.agg #[.int .i64 a, .int .i64 b, .int .i64 c, .int .i64 d, .int .i64 f, .string s])).run Try.prog w = .ok (.bool false) w := by
  have e1 : Try.prog.underlying 121 = some (.struct (Try.prog.fieldsOf 121)) := by kernel_rfl
  have e2 : Try.prog.stoodInHeld 121 = false := by kernel_rfl
  rw [run_neq_struct, run_equalIn_agg w _ _ _ _ e1 e2]
  obtain ⟨f0, f1, hf, t0, t1, o0, o1⟩ : ∃ f0 f1 : Field, (Try.prog.fieldsOf 121).toList = [f0, f1] ∧ f0.type = 3 ∧ f1.type = 25 ∧ f0.offset = 0 ∧ f1.offset = 1 := ⟨_, _, rfl, rfl, rfl, rfl, rfl⟩
  rw [hf]
  obtain ⟨i0, i1, i2, i3, i4, hi, s0, s1, s2, s3, s4, p0, p1, p2, p3, p4⟩ : ∃ f0 f1 f2 f3 f4 : Field, Try.prog.underlying 25 = some (.struct #[f0, f1, f2, f3, f4]) ∧ f0.type = 3 ∧ f1.type = 3 ∧ f2.type = 3 ∧ f3.type = 3 ∧ f4.type = 9 ∧ f0.offset = 0 ∧ f1.offset = 1 ∧ f2.offset = 2 ∧ f3.offset = 3 ∧ f4.offset = 4 := ⟨_, _, _, _, _, Try.underlying25, rfl, rfl, rfl, rfl, rfl, rfl, rfl, rfl, rfl, rfl⟩
  have hu := Try.underlying3
  have hs := Try.underlying9
  simp [Op.eqFields, t0, t1, o0, o1, go_sem, hu, hs, hi, s0, s1, s2, s3, s4, p0, p1, p2, p3, p4]
/-- Two lists that are alike. -/
theorem RSame_eq (l : List Ot) (A A' : Option Addr) (c c' : Nat) (w : World) (h : Sl w A 6 (l.map Ot.vals)) (h' : Sl w A' 6 (l.map Ot.vals)) (hl : l.length ≤ 100000) :
    Calls Try.prog 26 #[.slice A l.length c, .slice A' l.length c'] w fun e w' => e = .returned (.bool true) ∧ Below w.heap.size w w' := by
  obtain ⟨n, hn⟩ : ∃ n, l.length = n := ⟨_, rfl⟩
  have HN := Lib.hid hn
  have HS := Lib.hid h
  have HS' := Lib.hid h'
  rw [hn] at hl ⊢
  clear hn h h'
  go_enter Try.func26, Try.ntmps26
  go_wp2_with fail
  go_loopw [5] (fun j wr => ∃ k : Nat, k ≤ n ∧ j = .int .i64 (k : Int) ∧ Hid (Below w.heap.size w wr)) (fun j _ => n - (intOf j).toNat)
  case atStart => exact ⟨0, Nat.zero_le _, rfl, Lib.hid (Below.refl _ _)⟩
  case round =>
    obtain ⟨k, hkn, rfl, HB⟩ := hrel
    by_cases hlt : k < n
    · have hkl : k < l.length := by rw [HN.out]; exact hlt
      obtain ⟨g, off, rfl, hr⟩ := (HS.out.later HB.out) k (by rw [List.length_map]; exact hkl)
      obtain ⟨g', off', rfl, hr'⟩ := (HS'.out.later HB.out) k (by rw [List.length_map]; exact hkl)
      obtain ⟨o, ho⟩ : ∃ o, l[k] = o := ⟨_, rfl⟩
      rw [List.getElem_map, ho] at hr hr'
      have x0 := hr 0 _ rfl
      rw [Nat.add_zero] at x0
      have x1 := hr 1 _ rfl
      have x2 := hr 2 _ rfl
      have x3 := hr 3 _ rfl
      have x4 := hr 4 _ rfl
      have x5 := hr 5 _ rfl
      have y0 := hr' 0 _ rfl
      rw [Nat.add_zero] at y0
      have y1 := hr' 1 _ rfl
      have y2 := hr' 2 _ rfl
      have y3 := hr' 3 _ rfl
      have y4 := hr' 4 _ rfl
      have y5 := hr' 5 _ rfl
      have HNQ := Lib.hid (ot_neq o.dst o.e.kind o.e.epoch o.e.peer o.e.seq o.e.pay wr)
      clear hr hr' ho hkl
      have HX := And.intro (And.intro x0 (And.intro x1 (And.intro x2 (And.intro x3 (And.intro x4 x5))))) (And.intro y0 (And.intro y1 (And.intro y2 (And.intro y3 (And.intro y4 y5)))))
      go_upto_region 6 with (fail)
      go_quiet (rw [HNQ.out])
      go_wp2_with fail
      go_roundw
      case rel => exact ⟨k + 1, by omega, by go_num, Lib.hid (below_drewN HB.out _)⟩
      case measure => simp [intOf]; omega
    · obtain rfl : k = n := by omega
      go_wp2_with fail
      go_returns
      exact ⟨rfl, HB.out⟩
/-- A held payload's envelope. -/
theorem rdata_any (h : RAtX B F w rb S pb pc As cs Ds ds) (hn : S.peers.length ≤ 16) (i : Nat) (hi : i < S.peers.length) (sq lf dl : Int) (py : ByteArray) :
    Calls Try.prog 51 #[.pointer (some ⟨rb, 0, none⟩), .int .i64 ((i : Int) + 1), .agg #[.int .i64 sq, .string py, .int .i64 lf, .int .i64 dl]] w fun e w' => e = .returned (.agg #[.int .i64 ((i : Int) + 1), .int .i64 1, .int .i64 S.epoch, .int .i64 S.peers[i].known, .int .i64 sq, .string py]) ∧ Below w.heap.size w w' := by
  obtain ⟨w1, hw1⟩ : ∃ W, W = w.alloc (.cells #[.int .i64 sq, .string py, .int .i64 lf, .int .i64 dl] 119) := ⟨_, rfl⟩
  have hb1 : Below w.heap.size w w1 := by rw [hw1]; exact below_alloc _ _
  have hc1 : Cells w1 w.heap.size 119 [.int .i64 sq, .string py, .int .i64 lf, .int .i64 dl] := by rw [hw1]; exact cells_new _ _ _ _ rfl
  have hsz : w1.heap.size = w.heap.size + 1 := by rw [hw1]; exact Array.size_push _
  obtain ⟨w2, hw2⟩ : ∃ W, W = w1.alloc (.cells #[.int .i64 0, .int .i64 0, .int .i64 0, .int .i64 0, .int .i64 0, .string ⟨#[]⟩] 121) := ⟨_, rfl⟩
  have hb2 : Below w1.heap.size w1 w2 := by rw [hw2]; exact below_alloc _ _
  have hc2 : Cells w2 (w.heap.size + 1) 121 [.int .i64 0, .int .i64 0, .int .i64 0, .int .i64 0, .int .i64 0, .string ⟨#[]⟩] := by rw [hw2, ← hsz]; exact cells_new _ _ _ _ rfl
  have hbb : Below w.heap.size w w2 := hb1.trans (hb2.mono hb1.size)
  have HB := Lib.hid hbb
  have HC2 := Lib.hid hc2
  have HC := Lib.hid (hc1.later hb2)
  have HX := Lib.hid (h.later hbb)
  obtain ⟨n, hn2⟩ : ∃ n, S.peers.length = n := ⟨_, rfl⟩
  obtain ⟨kn, hkn⟩ : ∃ n, S.peers[i].known = n := ⟨_, rfl⟩
  obtain ⟨ep, hep⟩ : ∃ n, S.epoch = n := ⟨_, rfl⟩
  obtain ⟨x, hx⟩ : ∃ x, (i : Int) + 1 = x := ⟨_, rfl⟩
  have HN := Lib.hid hn2
  have HKN := Lib.hid hkn
  have HEP := Lib.hid hep
  have HI := Lib.hid hi
  have HLT : Hid ((i : Int) < (n : Int)) := Lib.hid (by omega)
  have HWR : Hid (IntKind.i64.wrap (x - 1) = (i : Int)) := Lib.hid (by rw [IntKind.wrap_i64]; omega)
  rw [hkn, hep, hx]
  clear h hb1 hc1 hb2 hc2 hbb hn2 hkn hep hx hn
  go_enter Try.func51, Try.ntmps51
  go_upto_region 1 with (fail)
  rw [← hw1, ← hw2]
  clear hw1 hw2 hsz
  refine Reg.region_heavy (by kernel_rfl) 20 [] (sesRD1 rb pb i n pc w.heap.size x ep kn sq py) (fun a => Below w2.heap.size w2 a) (fun a => Cells a (w.heap.size + 1) 121 [.int .i64 x, .int .i64 1, .int .i64 ep, .int .i64 kn, .int .i64 sq, .string py] ∧ Only (fun k => k = w.heap.size + 1) w2 a) (fun V => [(some 7, V 0), (some 8, V 1), (some 9, V 2), (some 10, V 3), (some 11, V 4), (some 12, V 5), (some 13, V 6), (some 14, V 7), (some 15, V 8), (some 16, V 9), (some 17, V 10), (some 18, V 11), (some 19, V 12), (some 20, V 13), (some 21, V 14), (some 22, V 15), (some 23, V 16), (some 24, V 17), (some 25, V 18), (some 26, V 19), (none, V 20)]) (by kernel_rfl) (by kernel_rfl) (by kernel_rfl) (fun V => rfl) ?_ ?_ ?_
  · exact (Below.refl _ _).drew
  · intro i o ho
    have hi : i < 21 := (Array.getElem?_eq_some_iff.1 ho).1
    rcases i with _ | _ | _ | _ | _ | _ | _ | _ | _ | _ | _ | _ | _ | _ | _ | _ | _ | _ | _ | _ | _ | i
    rotate_right
    · omega
    all_goals obtain rfl := Option.some.inj ho
    all_goals intro ρ wi hE hI hs hd
    all_goals try dsimp only at hI
    · have e1 : ρ (.tmp 1) = .int .i64 x := hs 1; exact Reg.gw hI
    · have e0 : ρ (.tmp 0) = .pointer (some ⟨rb, 0, none⟩) := hs 0; exact Reg.gw hI
    · obtain ⟨_, rfl, e8⟩ := hd 1 8; exact Reg.gw hI
    · obtain ⟨_, rfl, e9⟩ := hd 2 9; exact Reg.gw hI
    · obtain ⟨_, rfl, e10⟩ := hd 3 10; have x0 := (HX.out.later hI).cel.cell (j := 1) rfl
      rw [HEP.out] at x0
      exact Reg.gw hI
    · have e0 : ρ (.tmp 0) = .pointer (some ⟨rb, 0, none⟩) := hs 0; exact Reg.gw hI
    · obtain ⟨_, rfl, e12⟩ := hd 5 12; exact Reg.gw hI
    · obtain ⟨_, rfl, e13⟩ := hd 6 13; exact Reg.gw hI
    · obtain ⟨_, rfl, e14⟩ := hd 7 14; have x0 := (HX.out.later hI).cel.cell (j := 2) rfl
      rw [HN.out] at x0
      exact Reg.gw hI
    · have e1 : ρ (.tmp 1) = .int .i64 x := hs 1; exact Reg.gw hI
    · obtain ⟨_, rfl, e16⟩ := hd 9 16; have hc := hE.const; have hwr := HWR.out; exact Reg.gw hI
    · obtain ⟨_, rfl, e15⟩ := hd 8 15; obtain ⟨_, rfl, e17⟩ := hd 10 17; have hlt := HLT.out; exact Reg.gw hI
    · obtain ⟨_, rfl, e18⟩ := hd 11 18; exact Reg.gw hI
    · obtain ⟨_, rfl, e19⟩ := hd 12 19; have x0 : wi.cell? ⟨pb, i * 4 + 1, none⟩ = _ := ((HX.out.later hI).peer i HI.out).1.cell (j := 1) rfl
      rw [HKN.out] at x0
      exact Reg.gw hI
    · have e5 : ρ (.tmp 5) = .pointer (some ⟨w.heap.size, 0, none⟩) := hs 5; exact Reg.gw hI
    · obtain ⟨_, rfl, e21⟩ := hd 14 21; have x0 := (HC.out.later hI).cell (j := 0) rfl; exact Reg.gw hI
    · have e5 : ρ (.tmp 5) = .pointer (some ⟨w.heap.size, 0, none⟩) := hs 5; exact Reg.gw hI
    · obtain ⟨_, rfl, e23⟩ := hd 16 23; have x0 := (HC.out.later hI).cell (j := 1) rfl; exact Reg.gw hI
    · obtain ⟨_, rfl, e11⟩ := hd 4 11; obtain ⟨_, rfl, e20⟩ := hd 13 20; obtain ⟨_, rfl, e22⟩ := hd 15 22; obtain ⟨_, rfl, e24⟩ := hd 17 24; have hc := hE.const; exact Reg.gw hI
    · obtain ⟨_, rfl, e7⟩ := hd 0 7; obtain ⟨_, rfl, e25⟩ := hd 18 25; exact Reg.gw hI
    · have e6 : ρ (.tmp 6) = .pointer (some ⟨(w.heap.size + 1), 0, none⟩) := hs 6; obtain ⟨_, rfl, e26⟩ := hd 19 26; obtain ⟨k1, k2⟩ := (HC2.out.later hI).put (l := [.int .i64 x, .int .i64 1, .int .i64 ep, .int .i64 kn, .int .i64 sq, .string py]) rfl; have k3 := (HC2.out.later hI).there (n := 6) (Nat.le_refl 6)
      exact Reg.Gives.skip (exec_store 121 _ _ rfl (w.heap.size + 1) 0 #[.int .i64 x, .int .i64 1, .int .i64 ep, .int .i64 kn, .int .i64 sq, .string py] (by assumption) (by assumption) (run_storeVar_mid _ (w.heap.size + 1) 0 121 #[.int .i64 x, .int .i64 1, .int .i64 ep, .int .i64 kn, .int .i64 sq, .string py] k3 (by kernel_rfl) (by simp [Value.oneCell']))) ⟨trivial, ⟨k1, (Only.of_below hI).trans k2 fun _ _ e => e⟩, fun _ _ _ _ h => sesRD1_keep h⟩
  · intro V wb hV hI
    simp only [Reg.putsO, List.foldl_cons, List.foldl_nil, Act.put, List.setIfInBounds_toArray, List.set_cons_succ, List.set_cons_zero]
    replace hI : (fun a => Cells a (w.heap.size + 1) 121 [.int .i64 x, .int .i64 1, .int .i64 ep, .int .i64 kn, .int .i64 sq, .string py] ∧ Only (fun k => k = w.heap.size + 1) w2 a) wb := hI
    clear hV
    obtain ⟨hk1, hk2⟩ := hI
    have HPT := Lib.hid hk1
    have HOV := Lib.hid hk2
    clear hk1 hk2
    go_wp2_with fail
    refine bodyPost_ret (v := .agg #[.int .i64 x, .int .i64 1, .int .i64 ep, .int .i64 kn, .int .i64 sq, .string py]) ?_ rfl ?_
    · exact (ret_cell (p := 6) (ty := 121) (by rfl) _ HPT.out _ (by rfl) Try.underlying121 rfl (by kernel_rfl)).trans (by rfl)
    · exact ⟨rfl, HB.out.trans (HOV.out.below HB.out.size fun k e => by rw [e]; exact Nat.le_succ _)⟩
end
end Go.Proofs.Ytjfejfhdohpfbaa.Ses
