/-
  Layer 8: can an item be prepared? Is a number among some? Conditions: none.
-/
import Derived.Test.YtakeldpmfbahnaaLedAsk
import Derived.BigQuiet
import Derived.WalkSmall
namespace Go.Proofs.Ytakeldpmfbahnaa.Led
set_option maxRecDepth 100000
open Go.RowKit Go.Deep Go.Proofs.Ytakeldpmfbahnaa.Mem Go.Proofs.Ytakeldpmfbahnaa.Item Go.Proofs.Ytakeldpmfbahnaa.Rec

set_option maxHeartbeats 1000000 in
theorem index_int (A : Option Addr) (vs : List Int) (cap : Nat) (c : Int) (w : World) (h : Nums w A vs) (hl : vs.length ≤ 1000000) :
    Calls Try.prog 81 #[.slice A vs.length cap, .int .i64 c] w fun e w' => e = .returned (.int .i64 (idxB (vs.map fun x => decide (x = c)))) ∧ w = w' := by
  have HH := Lib.hid h
  obtain ⟨F, hF⟩ : ∃ F, idxB (vs.map fun x => decide (x = c)) = F := ⟨_, rfl⟩
  have HF := Lib.hid hF
  rw [hF]
  obtain ⟨n, hn⟩ : ∃ n, vs.length = n := ⟨_, rfl⟩
  have HN := Lib.hid hn
  rw [hn] at hl ⊢
  clear h hF hn
  go_enter Try.func81, Try.ntmps81
  go_wp2_with fail
  go_loop [5, 8] (fun _ i => ∃ k : Nat, k ≤ n ∧ i = .int .i64 (k : Int) ∧ Hid (∀ j (hj : j < vs.length), j < k → vs[j] ≠ c)) (fun _ i => n - (intOf i).toNat)
  case atStart => exact ⟨0, Nat.zero_le _, rfl, Lib.hid (fun j _ hj => absurd hj (by omega))⟩
  case round =>
    obtain ⟨k, hk, rfl, hd⟩ := hrel
    by_cases hlt : k < n
    · have hlt' : k < vs.length := by have := HN.out; omega
      obtain ⟨b, off, hA, c0⟩ := HH.out k hlt'
      subst hA
      have HD2 : Hid (vs[k] ≠ c → ∀ j (hj : j < vs.length), j < k + 1 → vs[j] ≠ c) := Lib.hid (fun h0 j hj hjk => by
        by_cases e : j = k
        · subst e; exact h0
        · exact hd.out j hj (by omega))
      have HE : Hid (vs[k] = c → F = (k : Int)) := Lib.hid (fun h1 => by
        rw [← HF.out]
        exact idxB_at (by rw [List.length_map]; exact hlt') (fun j hj => by rw [List.getElem_map]; exact decide_eq_false (hd.out j (by omega) hj)) (by rw [List.getElem_map]; exact decide_eq_true h1))
      obtain ⟨x, hx⟩ : ∃ x, vs[k] = x := ⟨_, rfl⟩
      rw [hx] at c0 HD2 HE
      clear hx hlt'
      by_cases hxc : x = c
      · have HE2 := Lib.hid (HE.out hxc)
        subst hxc
        go_wp2_with fail
        go_returns
        exact ⟨ret_int HE2.out.symm, rfl⟩
      · have HDD := Lib.hid (HD2.out hxc)
        have hxc2 : ¬ c = x := fun e => hxc e.symm
        go_wp2_with fail
        go_round
        case rel => exact ⟨k + 1, by omega, by go_num, HDD⟩
        case measure => simp [intOf]; omega
    · have HE : Hid (F = -1) := Lib.hid (by rw [← HF.out]; exact idxB_none fun j hj => by rw [List.getElem_map]; rw [List.length_map] at hj; exact decide_eq_false (hd.out j hj (by have := HN.out; omega)))
      clear hd
      go_wp2_with fail
      go_returns
      exact ⟨ret_int HE.out.symm, rfl⟩
theorem contains_int (A : Option Addr) (vs : List Int) (cap : Nat) (c : Int) (w : World) (h : Nums w A vs) (hl : vs.length ≤ 1000000) :
    Calls Try.prog 65 #[.slice A vs.length cap, .int .i64 c] w fun e w' => e = .returned (.bool (vs.any fun x => decide (x = c))) ∧ w = w' := by
  have HC := Lib.hid (index_int A vs cap c w h hl)
  have HB := Lib.hid (idxB_nonneg (vs.map fun x => decide (x = c)))
  have HAN : Hid ((vs.map fun x => decide (x = c)).any (fun b => b) = vs.any fun x => decide (x = c)) := Lib.hid (by rw [List.any_map]; rfl)
  rw [← HAN.out, ← HB.out]
  obtain ⟨n, hn⟩ : ∃ n, vs.length = n := ⟨_, rfl⟩
  obtain ⟨F, hF⟩ : ∃ F, idxB (vs.map fun x => decide (x = c)) = F := ⟨_, rfl⟩
  rw [hn, hF] at HC
  rw [hn, hF]
  clear h hl hn hF HB HAN
  go_enter Try.func65, Try.ntmps65
  go_wp2_with fail
  refine HC.out.mono ?_
  rintro e w2 ⟨rfl, rfl⟩
  go_wp2_with fail
  go_returns
  exact ⟨rfl, rfl⟩

/-- Why an item can't be prepared; 0: it can. -/
def lockE (s : St) (x : It) : Int := if owns s x.cell = false then 8 else if locked s x.cell = true then 12 else if (plAt s x.cell).version ≠ x.version then 13 else 0
theorem owns_has {s : St} {c : Int} (h : owns s c = true) : hasC s c = true := by
  unfold owns at h
  exact (Bool.and_eq_true _ _ ▸ h).1
def ledLk1 (s : St) (y : Sy) (x : It) (b g : Nat) : Nat → Value → World → Prop
  | 0, v, _ => v = .pointer (some ⟨b, 0, none⟩)
  | 1, v, _ => v = .pointer (some ⟨b, 0, none⟩)
  | 2, v, _ => v = s.val y
  | 3, v, _ => v = .pointer (some ⟨g, 0, none⟩)
  | 4, v, _ => v = .int .i64 x.cell
  | 5, v, _ => v = .bool (owns s x.cell)
  | 6, v, _ => v = .bool (!owns s x.cell)
  | 7, v, _ => v = .bool (!owns s x.cell)
  | _, _, _ => True
theorem ledLk1_later {s : St} {y : Sy} {x : It} {b g : Nat} {j : Nat} {v : Value} {w w' : World} (_hb : Below w.heap.size w w') (h : ledLk1 s y x b g j v w) : ledLk1 s y x b g j v w' := by
  match j, h with
  | 0, h | 1, h | 2, h | 3, h | 4, h | 5, h | 6, h | 7, h => exact h
  | _ + 8, _ => exact trivial
def ledLk2 (s : St) (y : Sy) (x : It) (b g : Nat) : Nat → Value → World → Prop
  | 0, v, _ => v = .pointer (some ⟨b, 0, none⟩)
  | 1, v, _ => v = .pointer (some ⟨b, 0, none⟩)
  | 2, v, _ => v = s.val y
  | 3, v, _ => v = .pointer (some ⟨g, 0, none⟩)
  | 4, v, _ => v = .int .i64 x.cell
  | 5, v, _ => v = .bool (locked s x.cell)
  | 6, v, _ => v = .bool (locked s x.cell)
  | _, _, _ => True
theorem ledLk2_later {s : St} {y : Sy} {x : It} {b g : Nat} {j : Nat} {v : Value} {w w' : World} (_hb : Below w.heap.size w w') (h : ledLk2 s y x b g j v w) : ledLk2 s y x b g j v w' := by
  match j, h with
  | 0, h | 1, h | 2, h | 3, h | 4, h | 5, h | 6, h => exact h
  | _ + 7, _ => exact trivial
set_option maxHeartbeats 1000000 in
theorem lockable_any (s : St) (y : Sy) (x : It) (b : Nat) (w : World) (hv : Sees w s y) (hs : Cells w b 32 (s.vals y)) (hl : s.prep.length ≤ 1000000 ∧ ∀ p ∈ s.prep, p.items.length ≤ 1000000) :
    Calls Try.prog 66 #[.pointer (some ⟨b, 0, none⟩), x.val] w fun e w' => e = .returned (.int .i64 (lockE s x)) ∧ Below w.heap.size w w' := by
  obtain ⟨wb, hwb⟩ : ∃ v, v = w.alloc (.cells #[.int .i64 x.cell, .int .i64 x.version, .int .i64 x.value, .bool x.write, .int .i64 x.new] 57) := ⟨_, rfl⟩
  have hb : Below w.heap.size w wb := by rw [hwb]; exact below_alloc _ _
  have hxc : Cells wb w.heap.size 57 [.int .i64 x.cell, .int .i64 x.version, .int .i64 x.value, .bool x.write, .int .i64 x.new] := by rw [hwb]; exact cells_new _ _ _ _ rfl
  have HXC := Lib.hid hxc
  have HS0 := Lib.hid (hs.later hb)
  have HS := Lib.hid (fun wi (h : Below wb.heap.size wb wi) => (hs.later hb).later h)
  have HX := Lib.hid (fun wi (h : Below wb.heap.size wb wi) => (hxc.later h).cell (j := 0) rfl)
  have HV := Lib.hid (hv.later hb)
  have HLP := Lib.hid hl
  have HB := Lib.hid hb
  have HLE : Hid (lockE s x = if owns s x.cell = false then 8 else if locked s x.cell = true then 12 else if (plAt s x.cell).version ≠ x.version then 13 else 0) := Lib.hid rfl
  obtain ⟨E, hE⟩ : ∃ E, lockE s x = E := ⟨_, rfl⟩
  rw [hE] at HLE ⊢
  unfold It.val
  clear hs hb hxc hv hl hE
  go_enter Try.func66, Try.ntmps66
  go_wp2_with fail
  rw [← hwb]
  refine Reg.region_heavy (by kernel_rfl) 7 [7] (ledLk1 s y x b w.heap.size) (fun a => Below wb.heap.size wb a) (fun a => Below wb.heap.size wb a) (fun V => [(some 6, V 0), (some 7, V 1), (some 8, V 2), (some 9, V 3), (some 10, V 4), (some 11, V 5), (some 12, V 6), (some 5, V 7)]) (by kernel_rfl) (by kernel_rfl) (by kernel_rfl) (fun V => rfl) ?_ ?_ ?_
  · exact (Below.refl _ _).drew
  · intro i o ho
    have hi : i < 8 := (Array.getElem?_eq_some_iff.1 ho).1
    rcases i with _ | _ | _ | _ | _ | _ | _ | _ | i
    · obtain rfl := Option.some.inj ho
      intro ρ wi hE hI hs hd
      try dsimp only at hI
      have e0 : ρ (.tmp 0) = .pointer (some ⟨b, 0, none⟩) := hs 0 (by kernel_rfl)
      exact Reg.Gives.value (v := .pointer (some ⟨b, 0, none⟩)) (w' := wi) (by go_simp) (Reg.OwedH.same hI rfl)
    · obtain rfl := Option.some.inj ho
      intro ρ wi hE hI hs hd
      try dsimp only at hI
      obtain ⟨u6, g6, e6⟩ := hd 0 6 (by kernel_rfl) (by kernel_rfl) (by show _ < 33; decide)
      obtain rfl : u6 = .pointer (some ⟨b, 0, none⟩) := g6
      exact Reg.Gives.value (v := .pointer (some ⟨b, 0, none⟩)) (w' := wi) (by go_simp) (Reg.OwedH.same hI rfl)
    · obtain rfl := Option.some.inj ho
      intro ρ wi hE hI hs hd
      try dsimp only at hI
      obtain ⟨u7, g7, e7⟩ := hd 1 7 (by kernel_rfl) (by kernel_rfl) (by show _ < 33; decide)
      obtain rfl : u7 = .pointer (some ⟨b, 0, none⟩) := g7
      exact Reg.Gives.value (v := s.val y) (w' := wi) (by have hz := HS.out wi hI; unfold St.vals at hz; have z0 := hz.cell (j := 0) rfl; have z1 := hz.cell (j := 1) rfl; have z2 := hz.cell (j := 2) rfl; have z3 := hz.cell (j := 3) rfl; have z4 := hz.cell (j := 4) rfl; have z5 := hz.cell (j := 5) rfl; have z6 := hz.cell (j := 6) rfl; have z7 := hz.cell (j := 7) rfl; clear hz; unfold St.val; go_simp) (Reg.OwedH.same hI rfl)
    · obtain rfl := Option.some.inj ho
      intro ρ wi hE hI hs hd
      try dsimp only at hI
      have e3 : ρ (.tmp 3) = .pointer (some ⟨w.heap.size, 0, none⟩) := hs 3 (by kernel_rfl)
      exact Reg.Gives.value (v := .pointer (some ⟨w.heap.size, 0, none⟩)) (w' := wi) (by go_simp) (Reg.OwedH.same hI rfl)
    · obtain rfl := Option.some.inj ho
      intro ρ wi hE hI hs hd
      try dsimp only at hI
      obtain ⟨u9, g9, e9⟩ := hd 3 9 (by kernel_rfl) (by kernel_rfl) (by show _ < 33; decide)
      obtain rfl : u9 = .pointer (some ⟨w.heap.size, 0, none⟩) := g9
      have hx := HX.out wi hI
      exact Reg.Gives.value (v := .int .i64 x.cell) (w' := wi) (by go_simp) (Reg.OwedH.same hI rfl)
    · obtain rfl := Option.some.inj ho
      intro ρ wi hE hI hs hd
      try dsimp only at hI
      obtain ⟨u8, g8, e8⟩ := hd 2 8 (by kernel_rfl) (by kernel_rfl) (by show _ < 33; decide)
      obtain rfl : u8 = s.val y := g8
      obtain ⟨u10, g10, e10⟩ := hd 4 10 (by kernel_rfl) (by kernel_rfl) (by show _ < 33; decide)
      obtain rfl : u10 = .int .i64 x.cell := g10
      have hf := hE.func
      refine Reg.Gives.call (f := 12) (args := #[s.val y, .int .i64 x.cell]) (w' := wi) (by go_simp) ?_
      refine (Owns_any s y x.cell wi (HV.out.later hI)).mono ?_
      rintro e w'' ⟨rfl, hbb⟩
      exact ⟨_, rfl, ⟨rfl, hI.trans (hbb.mono hI.size), fun j u _ _ h => ledLk1_later hbb h⟩⟩
    · obtain rfl := Option.some.inj ho
      intro ρ wi hE hI hs hd
      try dsimp only at hI
      obtain ⟨u11, g11, e11⟩ := hd 5 11 (by kernel_rfl) (by kernel_rfl) (by show _ < 33; decide)
      obtain rfl : u11 = .bool (owns s x.cell) := g11
      exact Reg.Gives.value (v := .bool (!owns s x.cell)) (w' := wi) (by go_simp) (Reg.OwedH.same hI rfl)
    · obtain rfl := Option.some.inj ho
      intro ρ wi hE hI hs hd
      try dsimp only at hI
      obtain ⟨u12, g12, e12⟩ := hd 6 12 (by kernel_rfl) (by kernel_rfl) (by show _ < 33; decide)
      obtain rfl : u12 = .bool (!owns s x.cell) := g12
      exact Reg.Gives.value (v := .bool (!owns s x.cell)) (w' := wi) (by go_simp) (Reg.OwedH.same hI rfl)
    · omega
  · intro V wa hV hI
    have hV7 : V 7 = .bool (!owns s x.cell) := hV 7 (by decide) rfl
    simp only [Reg.putsO, List.foldl_cons, List.foldl_nil, Act.put, List.setIfInBounds_toArray, List.set_cons_succ, List.set_cons_zero, hV7]
    replace hI : (fun a => Below wb.heap.size wb a) wa := hI
    clear hV hV7
    have HBA := Lib.hid (HB.out.trans (hI.mono HB.out.size))
    have HWA := Lib.hid hI
    clear hI
    cases ho : owns s x.cell with
    | false =>
      rw [ho] at HLE
      have HLE8 : Hid (E = 8) := Lib.hid HLE.out
      clear HLE ho
      go_wp2_with fail
      go_returns
      exact ⟨ret_int HLE8.out.symm, HBA.out⟩
    | true =>
      rw [ho, if_neg (by decide)] at HLE
      have HOW := Lib.hid ho
      have HX2 := Lib.hid (fun wi (h : Below wa.heap.size wa wi) => ((HXC.out.later HWA.out).later h).cell (j := 0) rfl)
      have HS2 := Lib.hid (fun wi (h : Below wa.heap.size wa wi) => (HS0.out.later HWA.out).later h)
      have HV2 := Lib.hid (HV.out.later HWA.out)
      clear ho
      go_wp2_with fail
      refine Reg.region_heavy (by kernel_rfl) 6 [6] (ledLk2 s y x b w.heap.size) (fun a => Below wa.heap.size wa a) (fun a => Below wa.heap.size wa a) (fun V => [(some 14, V 0), (some 15, V 1), (some 16, V 2), (some 17, V 3), (some 18, V 4), (some 19, V 5), (some 13, V 6)]) (by kernel_rfl) (by kernel_rfl) (by kernel_rfl) (fun V => rfl) ?_ ?_ ?_
      · exact (Below.refl _ _).drew
      · intro i o ho
        have hi : i < 7 := (Array.getElem?_eq_some_iff.1 ho).1
        rcases i with _ | _ | _ | _ | _ | _ | _ | i
        · obtain rfl := Option.some.inj ho
          intro ρ wi hE hI hs hd
          try dsimp only at hI
          have e0 : ρ (.tmp 0) = .pointer (some ⟨b, 0, none⟩) := hs 0 (by kernel_rfl)
          exact Reg.Gives.value (v := .pointer (some ⟨b, 0, none⟩)) (w' := wi) (by go_simp) (Reg.OwedH.same hI rfl)
        · obtain rfl := Option.some.inj ho
          intro ρ wi hE hI hs hd
          try dsimp only at hI
          obtain ⟨u14, g14, e14⟩ := hd 0 14 (by kernel_rfl) (by kernel_rfl) (by show _ < 33; decide)
          obtain rfl : u14 = .pointer (some ⟨b, 0, none⟩) := g14
          exact Reg.Gives.value (v := .pointer (some ⟨b, 0, none⟩)) (w' := wi) (by go_simp) (Reg.OwedH.same hI rfl)
        · obtain rfl := Option.some.inj ho
          intro ρ wi hE hI hs hd
          try dsimp only at hI
          obtain ⟨u15, g15, e15⟩ := hd 1 15 (by kernel_rfl) (by kernel_rfl) (by show _ < 33; decide)
          obtain rfl : u15 = .pointer (some ⟨b, 0, none⟩) := g15
          exact Reg.Gives.value (v := s.val y) (w' := wi) (by have hz := HS2.out wi hI; unfold St.vals at hz; have z0 := hz.cell (j := 0) rfl; have z1 := hz.cell (j := 1) rfl; have z2 := hz.cell (j := 2) rfl; have z3 := hz.cell (j := 3) rfl; have z4 := hz.cell (j := 4) rfl; have z5 := hz.cell (j := 5) rfl; have z6 := hz.cell (j := 6) rfl; have z7 := hz.cell (j := 7) rfl; clear hz; unfold St.val; go_simp) (Reg.OwedH.same hI rfl)
        · obtain rfl := Option.some.inj ho
          intro ρ wi hE hI hs hd
          try dsimp only at hI
          have e3 : ρ (.tmp 3) = .pointer (some ⟨w.heap.size, 0, none⟩) := hs 3 (by kernel_rfl)
          exact Reg.Gives.value (v := .pointer (some ⟨w.heap.size, 0, none⟩)) (w' := wi) (by go_simp) (Reg.OwedH.same hI rfl)
        · obtain rfl := Option.some.inj ho
          intro ρ wi hE hI hs hd
          try dsimp only at hI
          obtain ⟨u17, g17, e17⟩ := hd 3 17 (by kernel_rfl) (by kernel_rfl) (by show _ < 33; decide)
          obtain rfl : u17 = .pointer (some ⟨w.heap.size, 0, none⟩) := g17
          have hx := HX2.out wi hI
          exact Reg.Gives.value (v := .int .i64 x.cell) (w' := wi) (by go_simp) (Reg.OwedH.same hI rfl)
        · obtain rfl := Option.some.inj ho
          intro ρ wi hE hI hs hd
          try dsimp only at hI
          obtain ⟨u16, g16, e16⟩ := hd 2 16 (by kernel_rfl) (by kernel_rfl) (by show _ < 33; decide)
          obtain rfl : u16 = s.val y := g16
          obtain ⟨u18, g18, e18⟩ := hd 4 18 (by kernel_rfl) (by kernel_rfl) (by show _ < 33; decide)
          obtain rfl : u18 = .int .i64 x.cell := g18
          have hf := hE.func
          refine Reg.Gives.call (f := 13) (args := #[s.val y, .int .i64 x.cell]) (w' := wi) (by go_simp) ?_
          refine (Locked_any s y x.cell wi (HV2.out.later hI) HLP.out).mono ?_
          rintro e w'' ⟨rfl, hbb⟩
          exact ⟨_, rfl, ⟨rfl, hI.trans (hbb.mono hI.size), fun j u _ _ h => ledLk2_later hbb h⟩⟩
        · obtain rfl := Option.some.inj ho
          intro ρ wi hE hI hs hd
          try dsimp only at hI
          obtain ⟨u19, g19, e19⟩ := hd 5 19 (by kernel_rfl) (by kernel_rfl) (by show _ < 33; decide)
          obtain rfl : u19 = .bool (locked s x.cell) := g19
          exact Reg.Gives.value (v := .bool (locked s x.cell)) (w' := wi) (by go_simp) (Reg.OwedH.same hI rfl)
        · omega
      · intro V wc hV hI
        have hV6 : V 6 = .bool (locked s x.cell) := hV 6 (by decide) rfl
        simp only [Reg.putsO, List.foldl_cons, List.foldl_nil, Act.put, List.setIfInBounds_toArray, List.set_cons_succ, List.set_cons_zero, hV6]
        replace hI : (fun a => Below wa.heap.size wa a) wc := hI
        clear hV hV6
        have HBC := Lib.hid (HBA.out.trans (hI.mono HBA.out.size))
        have HWC := Lib.hid hI
        clear hI
        cases hk : locked s x.cell with
        | true =>
          rw [hk, if_pos rfl] at HLE
          have HLE8 : Hid (E = 12) := Lib.hid HLE.out
          clear HLE hk
          go_wp2_with fail
          go_returns
          exact ⟨ret_int HLE8.out.symm, HBC.out⟩
        | false =>
          rw [hk, if_neg (by decide)] at HLE
          obtain ⟨h0, h1⟩ := (hasC_iff s x.cell).1 (owns_has HOW.out)
          obtain ⟨k, hkk⟩ := Int.eq_ofNat_of_zero_le h0
          have hkl : k < s.places.length := by omega
          obtain ⟨pb, off, hA, hp⟩ := place_cells (HV2.out.later HWC.out).places hkl
          have hz := HS2.out wc HWC.out
          unfold St.vals at hz
          have z4 := hz.cell (j := 4) rfl
          rw [hA] at z4
          have hq := (HXC.out.later HWA.out).later HWC.out
          have q0 := hq.cell (j := 0) rfl
          have q1 := hq.cell (j := 1) rfl
          have p3 := hp.2.2.2.1
          rw [hkk, plAt_nat s hkl] at HLE
          rw [hkk] at q0
          obtain ⟨pv, hpv⟩ : ∃ v, s.places[k].version = v := ⟨_, rfl⟩
          rw [hpv] at p3 HLE
          clear hz hq hp hk h0 h1 hkk hpv hA
          by_cases hne : pv = x.version
          · rw [if_neg (by simp [hne])] at HLE
            go_wp2_with fail
            go_quiet (fail)
            go_wp2_with fail
            go_returns
            exact ⟨ret_int HLE.out.symm, below_drewN HBC.out nq⟩
          · rw [if_pos hne] at HLE
            go_wp2_with fail
            go_quiet (fail)
            go_wp2_with fail
            go_returns
            exact ⟨ret_int HLE.out.symm, below_drewN HBC.out nq⟩
end Go.Proofs.Ytakeldpmfbahnaa.Led
