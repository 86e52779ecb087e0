/-
  What the landed code of layer 4 does: Append (the others: DiskBox); all that is asked of it. Conditions: none.
-/
import Derived.Test.YtfdhckfpkhoheaaDoorDiskBox
namespace Go.Proofs.YtfdhckfpkhoheaaDoor.Disk
open Go.RowKit Go.Proofs.YtfdhckfpkhoheaaDoor.Mem

/-- Bytes of a text behind an own row: where the row lies then. -/
theorem append_string (w : World) (base : Nat) (v : Value) (l : List UInt8) (s : ByteArray) (hown : w.ownsRow base 5 1 v l.length (l.map bv)) (hn : l.length + s.size ≤ 1000000000) (hb : base ≤ w.heap.size) :
    ∃ v' w', (Builtin.append_ #[41, 9] 41 #[v, .string s]).run Tryd.prog w = .ok v' w' ∧ w'.ownsRow base 5 1 v' (l ++ s.data.toList).length ((l ++ s.data.toList).map bv) ∧ w.grownBy w' v.ownBlock ∧
      (v'.ownBlock = v.ownBlock ∨ v'.ownBlock = some w.heap.size) := by
  obtain ⟨i0, hi, hz0, hz1, hz2⟩ := info_parts infoByte
  have hm : l.length + s.size ≤ maxLen := by unfold maxLen; omega
  obtain ⟨v', w', hr, ho, hg, hx⟩ := Lib.run_append_own_string (P := Tryd.prog) w base 41 9 41 5 i0 Tryd.underlying41 Tryd.underlying9 hi hz0 hz1 hz2 v l.length (l.map bv) hown s hm (by omega) hb
  refine ⟨v', w', hr, ?_, hg, ?_⟩
  · rw [List.length_append, List.map_append, toList_size]
    exact ho
  · rcases hown.2 with ⟨rfl, h0⟩ | ⟨k, cap, cur, rfl, _, hk, hnc, hcm, hcs, htk⟩
    · by_cases hs : s.size = 0
      · rw [hx.2 ⟨rfl, hs⟩]; exact Or.inl rfl
      · have h2 := run_append_nil_string (P := Tryd.prog) w 41 9 41 5 i0 (.int .u8 0) Tryd.underlying41 Tryd.underlying9 hi hz0 s (by omega) (by omega) (by rw [hz2]; omega)
        have h3 := hr.symm.trans h2
        injection h3 with h4 h5
        rw [h4]
        exact Or.inr rfl
    · by_cases hroom : l.length + s.size ≤ cap
      · have h2 := Lib.run_append_room_string (P := Tryd.prog) w 41 9 41 5 i0 Tryd.underlying41 Tryd.underlying9 hi hz1 k l.length cap cur hk s hroom (by omega)
        have h3 := hr.symm.trans h2
        injection h3 with h4 h5
        rw [h4]
        exact Or.inl rfl
      · have h2 := Lib.run_append_grow_string (P := Tryd.prog) w 41 9 41 5 i0 (.int .u8 0) Tryd.underlying41 Tryd.underlying9 hi hz0 ⟨k, 0, none⟩ l.length cap (l.map bv) (by rw [hz1]; simp) (hown.cells (g := k) rfl) s (by omega) (by omega) (growslice_fits (by omega) (by rw [hz2]; omega))
        have h3 := hr.symm.trans h2
        injection h3 with h4 h5
        rw [h4]
        exact Or.inr rfl

set_option maxHeartbeats 1000000 in
theorem fit_any {w : World} {base g : Nat} {r : Option Nat} {d : Ds} (A : Option Addr) (ss : List ByteArray) (c : Nat) (h : Dk w base g r d) (ho : d.Ok) (hs : Strs w A ss) (hn : ss.length ≤ 1000) (hl : (cat ss).length ≤ 100000000) :
    Calls Tryd.prog 33 #[at_ g, .slice A ss.length c] w fun e w' => e = .returned (.bool (decide (d.b.length + (cat ss).length ≤ d.size))) ∧ Below w.heap.size w w' := by
  obtain ⟨v, _, _, _, hbx, hrow⟩ := h
  obtain ⟨c4, _, _, _, c3, _⟩ := hbx.cells
  obtain ⟨B, k, rfl⟩ := row_slice hrow
  have hfits := ho.fits
  have hsz := ho.size
  generalize hbl : d.b.length = bl at *
  clear hbx hrow ho
  unfold at_
  go_enter Tryd.func33, Tryd.ntmps33
  go_wp2_with fail
  go_region
  go_wp2_with fail
  go_loopw [5, 20] (fun x y wr => ∃ k : Nat, k ≤ ss.length ∧ y = .int .i64 k ∧ x = .int .i64 ((d.size : Int) - (bl : Int) - ((cat (ss.take k)).length : Int)) ∧ bl + (cat (ss.take k)).length ≤ d.size ∧ Below w.heap.size w wr) (fun _ y _ => ss.length - (intOf y).toNat)
  case atStart => exact ⟨0, Nat.zero_le _, rfl, by simp [cat], by simpa [cat] using hfits, (Below.refl _ _).drew⟩
  case round =>
    obtain ⟨k, hk, rfl, rfl, hle, hb⟩ := hrel
    by_cases hlt : k < ss.length
    · obtain ⟨ad, rfl, hc, hz⟩ := hs.later hb k hlt
      have ht := cat_take ss k hlt
      have htl := congrArg List.length ht
      generalize ss[k] = s at hc hz ht htl
      rw [List.length_append, toList_size] at htl
      have hcl : (cat (ss.take (k + 1))).length ≤ (cat ss).length := cat_take_le ss _
      have HB := Lib.hid hb
      have HTL := Lib.hid htl
      generalize hx : (cat (ss.take k)).length = x at *
      have hx2 : s.size ≤ 100000000 := by omega
      by_cases h0 : bl + (x + s.size) ≤ d.size
      · clear hb ht
        go_wp2_with fail
        go_roundw
        case rel => exact ⟨k + 1, by omega, by go_num, by rw [HTL.out]; go_num, by rw [HTL.out]; exact h0, HB.out⟩
        case measure => simp [intOf]; omega
      · have HE := Lib.hid (show decide (bl + (cat ss).length ≤ d.size) = false from decide_eq_false (by omega))
        clear hb ht
        go_wp2_with fail
        go_returns
        rw [HE.out]
        exact ⟨rfl, HB.out⟩
    · rw [List.take_of_length_le (by omega)] at hle
      have HE := Lib.hid (show decide (bl + (cat ss).length ≤ d.size) = true from decide_eq_true hle)
      have HB := Lib.hid hb
      clear hb hle
      go_wp2_with fail
      go_returns
      rw [HE.out]
      exact ⟨rfl, HB.out⟩

/-- What Append leaves of a disk that is up and has room. -/
def appended (d : Ds) (s : List UInt8) : Ds := { d with b := d.b ++ s.take (left d.fuse s.length), fuse := spend d.fuse (left d.fuse s.length), down := decide (left d.fuse s.length < s.length) }
theorem spent_app {d : Ds} (h : d.down = false) (s : List UInt8) : { spent d s.length with b := d.b ++ s.take (left d.fuse s.length) } = appended d s := by
  have e : (if d.fuse < 0 then d.down else decide (left d.fuse s.length < s.length)) = decide (left d.fuse s.length < s.length) := by
    split
    · rename_i h0
      rw [h]
      exact (decide_eq_false (by unfold left; rw [if_pos h0]; omega)).symm
    · rfl
  unfold spent appended
  rw [e]
/-- Behind the row's growing, ahead of its storing. -/
def apRow (w1 : World) (base g : Nat) (r : Option Nat) (d : Ds) (s : List UInt8) (v' : Value) (wi : World) : Prop :=
  wi.ownsRow base 5 1 v' (d.b ++ s.take (left d.fuse s.length)).length ((d.b ++ s.take (left d.fuse s.length)).map bv) ∧ Only (fun k => k = g ∨ some k = r) w1 wi ∧ (∃ v, Box wi g v (spent d s.length)) ∧ g < w1.heap.size ∧ ∀ k, v'.ownBlock = some k → some k = r ∨ w1.heap.size ≤ k
theorem ap_row {w1 wi w' : World} {base g : Nat} {d : Ds} {s : List UInt8} {v v' : Value} (hne : v.ownBlock ≠ some g) (hlt : g < w1.heap.size) (hon : Only (fun k => k = g) w1 wi) (hbx : Box wi g v (spent d s.length))
    (hrow : w'.ownsRow base 5 1 v' (d.b ++ s.take (left d.fuse s.length)).length ((d.b ++ s.take (left d.fuse s.length)).map bv)) (hgr : wi.grownBy w' v.ownBlock) (hat : v'.ownBlock = v.ownBlock ∨ v'.ownBlock = some wi.heap.size) : apRow w1 base g v.ownBlock d s v' w' := by
  refine ⟨hrow, (hon.mono fun k _ hk => Or.inl hk).trans (Only.of_grown hgr) fun k _ hk => Or.inr hk, ⟨v, hbx.only (Only.of_grown hgr) fun h => hne h.symm⟩, hlt, fun k hk => ?_⟩
  rcases hat with e | e
  · exact Or.inl (by rw [← hk, e])
  · rw [e] at hk
    injection hk with hk
    exact Or.inr (by have := hon.size; omega)
theorem ap_slice {w1 wi : World} {base g : Nat} {r : Option Nat} {d : Ds} {s : List UInt8} {v' : Value} (h : apRow w1 base g r d s v' wi) : ∃ A n k, v' = .slice A n k := by
  obtain ⟨A, c, e⟩ := row_slice h.1
  exact ⟨A, _, c, e⟩
theorem ap_end {w1 wi : World} {base g : Nat} {r : Option Nat} {d : Ds} {s : List UInt8} {v' : Value} (hne : r ≠ some g) (hbg : base ≤ g) (hd : d.down = false) (h : apRow w1 base g r d s v' wi) :
    ∃ r', Dk (wi.setCell ⟨g, 4, none⟩ v') base g r' (appended d s) ∧ Turn w1 (wi.setCell ⟨g, 4, none⟩ v') g r r' := by
  obtain ⟨hrow, hon, ⟨v, hbx⟩, hlt, hat⟩ := h
  have hn : v'.ownBlock ≠ some g := fun e => by
    rcases hat g e with h1 | h1
    · exact hne h1.symm
    · omega
  have hb := hbx.row v' (d.b ++ s.take (left d.fuse s.length))
  rw [spent_app hd s] at hb
  refine ⟨v'.ownBlock, ⟨v', rfl, hn, hbg, hb, row_only hrow (Only.of_set wi ⟨g, 4, none⟩ v') fun k hk e => hn (by rw [hk, e])⟩, hon.trans (Only.of_set wi ⟨g, 4, none⟩ v') fun k _ hk => Or.inl hk, hat⟩
/-- What is good of the values at Append's statement. -/
def apGood (g : Nat) (v : Value) (s t : ByteArray) (n k : Nat) (R : Value → World → Prop) : Nat → Value → World → Prop
  | 3, u, _ => u = .pointer (some ⟨g, 4, none⟩)
  | 4, u, _ => u = v
  | 5, u, _ => u = .string s
  | 9, u, _ => u = .string s
  | 10, u, _ => u = .int .i64 (n : Int)
  | 11, u, _ => u = .int .i64 (k : Int)
  | 12, u, _ => u = .string t
  | 13, u, w => R u w
  | 15, u, _ => u = .pointer (some ⟨g, 4, none⟩)
  | 16, _, _ => True
  | _, u, _ => u = .pointer (some ⟨g, 0, none⟩)
theorem ap_keep {g : Nat} {v : Value} {s t : ByteArray} {n k : Nat} {R : Value → World → Prop} {j : Nat} {u : Value} {w w' : World} (hj : j ≠ 13) (h : apGood g v s t n k R j u w) : apGood g v s t n k R j u w' := by
  rcases j with _ | _ | _ | _ | _ | _ | _ | _ | _ | _ | _ | _ | _ | _ | _ | _ | _ | j
  case succ.succ.succ.succ.succ.succ.succ.succ.succ.succ.succ.succ.succ.zero => exact absurd rfl hj
  all_goals exact h
/-- What is known of memory at Append's statement. -/
def apI (w1 : World) (g : Nat) (v : Value) (d : Ds) (n : Nat) (Fin : World → Prop) (D : Nat → Bool) (wi : World) : Prop :=
  (D 13 = true → D 4 = true ∧ D 11 = true) ∧ (D 16 = true → D 13 = true) ∧ (D 13 = false → Only (fun k => k = g) w1 wi ∧ Box wi g v (bif D 11 then spent d n else d)) ∧ (D 16 = true → Fin wi)

set_option maxHeartbeats 4000000 in
theorem append_any {w : World} {base g : Nat} {r : Option Nat} {d : Ds} (A : Option Addr) (ss : List ByteArray) (c : Nat) (h : Dk w base g r d) (ho : d.Ok) (hs : Strs w A ss) (hn : ss.length ≤ 1000) (hl : (cat ss).length ≤ 100000000) (hca : Cap A ss.length c) :
    Calls Tryd.prog 21 #[at_ g, .slice A ss.length c] w fun e w' => e = .returned (.int .i64 (appendS d (cat ss)).1) ∧ ∃ r', Dk w' base g r' (appendS d (cat ss)).2 ∧ Turn w w' g r r' := by
  have HD := Lib.hid (down_any h)
  have HW := Lib.hid h
  by_cases h1 : d.down = true
  · have HV := Lib.hid (show appendS d (cat ss) = (7, d) by unfold appendS; rw [if_pos h1])
    rw [h1] at HD
    clear h ho h1
    unfold at_ at *
    go_enter Tryd.func21, Tryd.ntmps21
    go_wp2_with fail
    refine HD.out.mono ?_
    rintro e w' ⟨rfl, rfl⟩
    go_wp2_with fail
    go_returns
    rw [HV.out]
    exact ⟨rfl, r, HW.out, Turn.refl _ _ _⟩
  have h1' : d.down = false := by simpa using h1
  rw [h1'] at HD
  have HF := Lib.hid (fit_any A ss c h ho hs hn hl)
  by_cases h2 : d.size < d.b.length + (cat ss).length
  · have HV := Lib.hid (show appendS d (cat ss) = (6, d) by unfold appendS; rw [if_neg h1, if_pos h2])
    rw [decide_eq_false (show ¬ d.b.length + (cat ss).length ≤ d.size by omega)] at HF
    clear h ho h1 h2
    unfold at_ at *
    go_enter Tryd.func21, Tryd.ntmps21
    go_wp2_with fail
    refine HD.out.mono ?_
    rintro e w1 ⟨rfl, rfl⟩
    go_wp2_with fail
    refine HF.out.mono ?_
    rintro e w2 ⟨rfl, hb⟩
    have HB := Lib.hid hb
    clear hb
    go_wp2_with fail
    go_returns
    rw [HV.out]
    exact ⟨rfl, r, HW.out.only (S := fun _ => False) (Only.of_below HB.out) (fun h => h) (fun _ _ h => h), (Turn.refl w g r).after HB.out⟩
  rw [decide_eq_true (show d.b.length + (cat ss).length ≤ d.size by omega)] at HF
  have HV := Lib.hid (show appendS d (cat ss) = (if left d.fuse (cat ss).length < (cat ss).length then 7 else 0, appended d (cat ss)) by unfold appendS; rw [if_neg h1, if_neg h2]; rfl)
  have HSS := Lib.hid hs
  have hsz := ho.size
  have HOK := Lib.hid ho
  have HDN := Lib.hid h1'
  have hle := left_le d.fuse (cat ss).length
  have HSL := Lib.hid (show (⟨(cat ss).toArray⟩ : ByteArray).extract 0 (left d.fuse (cat ss).length) = ⟨((cat ss).take (left d.fuse (cat ss).length)).toArray⟩ by
    apply ByteArray.ext
    apply Array.ext'
    simp)
  clear h ho h1 h1' hs
  unfold at_ at *
  go_enter Tryd.func21, Tryd.ntmps21
  go_wp2_with fail
  refine HD.out.mono ?_
  rintro e w0 ⟨rfl, rfl⟩
  go_wp2_with fail
  refine HF.out.mono ?_
  rintro e wf ⟨rfl, hbf⟩
  have HBF := Lib.hid hbf
  clear hbf
  go_wp2_with fail
  refine (join_any A ss c wf (HSS.out.later HBF.out) (by omega) hca.2 (by omega)).mono ?_
  rintro e w1 ⟨rfl, hb1⟩
  have hbw := HBF.out.trans (hb1.mono HBF.out.size)
  have hd1 : Dk w1 base g r d := HW.out.only (S := fun _ => False) (Only.of_below hbw) (fun h => h) (fun _ _ h => h)
  have HB1 := Lib.hid hbw
  obtain ⟨v, rfl, hne, hbg, hbx, hrow⟩ := hd1
  have HNE := Lib.hid hne
  have HBG := Lib.hid hbg
  have HBX := Lib.hid hbx
  have HAP : Hid (∀ wi : World, Only (fun k => k = g) w1 wi → ∃ v' w', (Builtin.append_ #[41, 9] 41 #[v, .string ⟨((cat ss).take (left d.fuse (cat ss).length)).toArray⟩]).run Tryd.prog wi = .ok v' w' ∧ w'.ownsRow base 5 1 v' (d.b ++ (cat ss).take (left d.fuse (cat ss).length)).length ((d.b ++ (cat ss).take (left d.fuse (cat ss).length)).map bv) ∧ wi.grownBy w' v.ownBlock ∧
      (v'.ownBlock = v.ownBlock ∨ v'.ownBlock = some wi.heap.size)) := Lib.hid fun wi hon => by
    have hfits := HOK.out.fits
    have hb : base ≤ wi.heap.size := by have := hbx.lt; have := hon.size; omega
    exact append_string wi base v d.b ⟨((cat ss).take (left d.fuse (cat ss).length)).toArray⟩ (row_only hrow hon fun k hk e => hne (by rw [hk, e])) (by simp [ByteArray.size]; omega) hb
  have HLT := Lib.hid hbx.lt
  clear hne hbg hbx hrow hb1 hbw h2
  go_wp2_with fail
  refine Reg.region_done (by kernel_rfl) [] (apGood g v ⟨(cat ss).toArray⟩ ⟨((cat ss).take (left d.fuse (cat ss).length)).toArray⟩ (cat ss).length (left d.fuse (cat ss).length) (apRow w1 base g v.ownBlock d (cat ss)))
    (apI w1 g v d (cat ss).length (fun wi => ∃ r', Dk wi base g r' (appended d (cat ss)) ∧ Turn w1 wi g v.ownBlock r')) (by kernel_rfl) (by kernel_rfl) ?_ ?_ ?_
  · exact ⟨fun h => (by cases h), fun h => (by cases h), fun _ => ⟨Only.of_below (Below.refl _ _).drew, HBX.out.only (S := fun _ => False) (Only.of_below (Below.refl _ _).drew) fun h => h⟩, fun h => (by cases h)⟩
  · intro i o ho
    have hi : i < 17 := (Array.getElem?_eq_some_iff.1 ho).1
    rcases i with _ | _ | _ | _ | _ | _ | _ | _ | _ | _ | _ | _ | _ | _ | _ | _ | _ | i
    · obtain rfl := Option.some.inj ho
      intro D ρ wi hE hI hDi hDw hs hd
      have e0 : ρ (.tmp 0) = .pointer (some ⟨g, 0, none⟩) := hs 0 (by kernel_rfl)
      exact Reg.Gives.value (v := .pointer (some ⟨g, 0, none⟩)) (w' := wi) (by go_simp) (Reg.Owed.same hI rfl)
    · obtain rfl := Option.some.inj ho
      intro D ρ wi hE hI hDi hDw hs hd
      have e0 : ρ (.tmp 0) = .pointer (some ⟨g, 0, none⟩) := hs 0 (by kernel_rfl)
      exact Reg.Gives.value (v := .pointer (some ⟨g, 0, none⟩)) (w' := wi) (by go_simp) (Reg.Owed.same hI rfl)
    · obtain rfl := Option.some.inj ho
      intro D ρ wi hE hI hDi hDw hs hd
      obtain ⟨u15, g15, e15⟩ := hd 1 15 (by kernel_rfl) (by kernel_rfl) (by show _ < 35; decide)
      obtain rfl : u15 = .pointer (some ⟨g, 0, none⟩) := g15
      exact Reg.Gives.value (v := .pointer (some ⟨g, 0, none⟩)) (w' := wi) (by go_simp) (Reg.Owed.same hI rfl)
    · obtain rfl := Option.some.inj ho
      intro D ρ wi hE hI hDi hDw hs hd
      obtain ⟨u16, g16, e16⟩ := hd 2 16 (by kernel_rfl) (by kernel_rfl) (by show _ < 35; decide)
      obtain rfl : u16 = .pointer (some ⟨g, 0, none⟩) := g16
      exact Reg.Gives.value (v := .pointer (some ⟨g, 4, none⟩)) (w' := wi) (by go_simp) (Reg.Owed.same hI rfl)
    · obtain rfl := Option.some.inj ho
      intro D ρ wi hE hI hDi hDw hs hd
      obtain ⟨u17, g17, e17⟩ := hd 3 17 (by kernel_rfl) (by kernel_rfl) (by show _ < 35; decide)
      obtain rfl : u17 = .pointer (some ⟨g, 4, none⟩) := g17
      obtain ⟨ha, hb, hc, hd'⟩ := hI
      have h13 : D 13 = false := by
        rcases Bool.eq_false_or_eq_true (D 13) with h | h
        · rw [(ha h).1] at hDi; cases hDi
        · exact h
      have hcell := (hc h13).2.cells.1
      exact Reg.Gives.value (v := v) (w' := wi) (by go_simp) (Reg.Owed.same ⟨fun h => ⟨rfl, (ha h).2⟩, hb, hc, hd'⟩ rfl)
    · obtain rfl := Option.some.inj ho
      intro D ρ wi hE hI hDi hDw hs hd
      have e5 : ρ (.tmp 5) = .string ⟨(cat ss).toArray⟩ := hs 5 (by kernel_rfl)
      exact Reg.Gives.value (v := .string ⟨(cat ss).toArray⟩) (w' := wi) (by go_simp) (Reg.Owed.same hI rfl)
    · obtain rfl := Option.some.inj ho
      intro D ρ wi hE hI hDi hDw hs hd
      have e0 : ρ (.tmp 0) = .pointer (some ⟨g, 0, none⟩) := hs 0 (by kernel_rfl)
      exact Reg.Gives.value (v := .pointer (some ⟨g, 0, none⟩)) (w' := wi) (by go_simp) (Reg.Owed.same hI rfl)
    · obtain rfl := Option.some.inj ho
      intro D ρ wi hE hI hDi hDw hs hd
      obtain ⟨u20, g20, e20⟩ := hd 6 20 (by kernel_rfl) (by kernel_rfl) (by show _ < 35; decide)
      obtain rfl : u20 = .pointer (some ⟨g, 0, none⟩) := g20
      exact Reg.Gives.value (v := .pointer (some ⟨g, 0, none⟩)) (w' := wi) (by go_simp) (Reg.Owed.same hI rfl)
    · obtain rfl := Option.some.inj ho
      intro D ρ wi hE hI hDi hDw hs hd
      obtain ⟨u21, g21, e21⟩ := hd 7 21 (by kernel_rfl) (by kernel_rfl) (by show _ < 35; decide)
      obtain rfl : u21 = .pointer (some ⟨g, 0, none⟩) := g21
      exact Reg.Gives.value (v := .pointer (some ⟨g, 0, none⟩)) (w' := wi) (by go_simp) (Reg.Owed.same hI rfl)
    · obtain rfl := Option.some.inj ho
      intro D ρ wi hE hI hDi hDw hs hd
      have e5 : ρ (.tmp 5) = .string ⟨(cat ss).toArray⟩ := hs 5 (by kernel_rfl)
      exact Reg.Gives.value (v := .string ⟨(cat ss).toArray⟩) (w' := wi) (by go_simp) (Reg.Owed.same hI rfl)
    · obtain rfl := Option.some.inj ho
      intro D ρ wi hE hI hDi hDw hs hd
      obtain ⟨u23, g23, e23⟩ := hd 9 23 (by kernel_rfl) (by kernel_rfl) (by show _ < 35; decide)
      obtain rfl : u23 = .string ⟨(cat ss).toArray⟩ := g23
      exact Reg.Gives.value (v := .int .i64 ((cat ss).length : Int)) (w' := wi) (by go_simp) (Reg.Owed.same hI rfl)
    · obtain rfl := Option.some.inj ho
      intro D ρ wi hE hI hDi hDw hs hd
      obtain ⟨u22, g22, e22⟩ := hd 8 22 (by kernel_rfl) (by kernel_rfl) (by show _ < 35; decide)
      obtain rfl : u22 = .pointer (some ⟨g, 0, none⟩) := g22
      obtain ⟨u24, g24, e24⟩ := hd 10 24 (by kernel_rfl) (by kernel_rfl) (by show _ < 35; decide)
      obtain rfl : u24 = .int .i64 ((cat ss).length : Int) := g24
      have hf := hE.func
      have hf := hE.func
      obtain ⟨ha, hb, hc, hd'⟩ := hI
      have h13 : D 13 = false := by
        rcases Bool.eq_false_or_eq_true (D 13) with h | h
        · rw [(ha h).2] at hDi; cases hDi
        · exact h
      have h16 : ¬ D 16 = true := fun h => by rw [hb h] at h13; cases h13
      obtain ⟨hon, hbx⟩ := hc h13
      rw [hDi, cond_false] at hbx
      refine Reg.Gives.call (f := 35) (args := #[.pointer (some ⟨g, 0, none⟩), .int .i64 ((cat ss).length : Int)]) (w' := wi) (by go_simp) ?_
      refine (spend_any (cat ss).length (by omega) HOK.out ⟨v, hbx⟩).mono ?_
      rintro e w'' ⟨rfl, hon2, hbx2⟩
      refine ⟨_, rfl, rfl, ⟨fun h => ⟨(ha h).1, rfl⟩, hb, fun _ => ⟨hon.trans hon2 fun k _ hk => hk, hbx2 v hbx⟩, fun h => absurd h h16⟩, fun j u _ hal h => ap_keep (fun e => ?_) h⟩
      subst e
      rw [show Reg.alive _ _ 11 13 = false by kernel_rfl] at hal
      cases hal
    · obtain rfl := Option.some.inj ho
      intro D ρ wi hE hI hDi hDw hs hd
      obtain ⟨u19, g19, e19⟩ := hd 5 19 (by kernel_rfl) (by kernel_rfl) (by show _ < 35; decide)
      obtain rfl : u19 = .string ⟨(cat ss).toArray⟩ := g19
      obtain ⟨u25, g25, e25⟩ := hd 11 25 (by kernel_rfl) (by kernel_rfl) (by show _ < 35; decide)
      obtain rfl : u25 = .int .i64 ((left d.fuse (cat ss).length : Nat) : Int) := g25
      have hsl := HSL.out
      exact Reg.Gives.value (v := .string ⟨((cat ss).take (left d.fuse (cat ss).length)).toArray⟩) (w' := wi) (by go_simp) (Reg.Owed.same hI rfl)
    · obtain rfl := Option.some.inj ho
      intro D ρ wi hE hI hDi hDw hs hd
      obtain ⟨u18, g18, e18⟩ := hd 4 18 (by kernel_rfl) (by kernel_rfl) (by show _ < 35; decide)
      obtain rfl : u18 = v := g18
      obtain ⟨u26, g26, e26⟩ := hd 12 26 (by kernel_rfl) (by kernel_rfl) (by show _ < 35; decide)
      obtain rfl : u26 = .string ⟨((cat ss).take (left d.fuse (cat ss).length)).toArray⟩ := g26
      obtain ⟨ha, hb, hc, hd'⟩ := hI
      have h16 : ¬ D 16 = true := fun h => by rw [hb h] at hDi; cases hDi
      have h11 : D 11 = true := hDw 11 (by kernel_rfl)
      have h4 : D 4 = true := hDw 4 (by kernel_rfl)
      obtain ⟨hon, hbx⟩ := hc hDi
      rw [h11, cond_true] at hbx
      obtain ⟨v', w'', hrun, hrow, hgr, hat⟩ := HAP.out wi hon
      have hR : apRow w1 base g _ d (cat ss) v' w'' := ap_row HNE.out HLT.out hon hbx hrow hgr hat
      exact Reg.Gives.value (v := v') (w' := w'') (Reg.exec_append rfl e18 e26 hrun) ⟨hR, ⟨fun _ => ⟨h4, h11⟩, fun _ => rfl, fun h => (by cases h), fun h => absurd h h16⟩, fun j u _ hal h => ap_keep (fun e => by subst e; rw [show Reg.alive _ _ 13 13 = false by kernel_rfl] at hal; cases hal) h⟩
    · obtain rfl := Option.some.inj ho
      intro D ρ wi hE hI hDi hDw hs hd
      obtain ⟨u14, g14, e14⟩ := hd 0 14 (by kernel_rfl) (by kernel_rfl) (by show _ < 35; decide)
      obtain rfl : u14 = .pointer (some ⟨g, 0, none⟩) := g14
      exact Reg.Gives.value (v := .pointer (some ⟨g, 0, none⟩)) (w' := wi) (by go_simp) (Reg.Owed.same hI rfl)
    · obtain rfl := Option.some.inj ho
      intro D ρ wi hE hI hDi hDw hs hd
      obtain ⟨u28, g28, e28⟩ := hd 14 28 (by kernel_rfl) (by kernel_rfl) (by show _ < 35; decide)
      obtain rfl : u28 = .pointer (some ⟨g, 0, none⟩) := g28
      exact Reg.Gives.value (v := .pointer (some ⟨g, 4, none⟩)) (w' := wi) (by go_simp) (Reg.Owed.same hI rfl)
    · obtain rfl := Option.some.inj ho
      intro D ρ wi hE hI hDi hDw hs hd
      obtain ⟨u29, g29, e29⟩ := hd 15 29 (by kernel_rfl) (by kernel_rfl) (by show _ < 35; decide)
      obtain rfl : u29 = .pointer (some ⟨g, 4, none⟩) := g29
      obtain ⟨u27, g27, e27⟩ := hd 13 27 (by kernel_rfl) (by kernel_rfl) (by show _ < 35; decide)
      obtain ⟨ha, hb, hc, hd'⟩ := hI
      have h13 : D 13 = true := hDw 13 (by kernel_rfl)
      have hR : apRow w1 base g _ d (cat ss) u27 wi := g27
      obtain ⟨vo, hbo⟩ := hR.2.2.1
      obtain ⟨c4', _, f4', _, _, _⟩ := hbo.cells
      obtain ⟨A4, n4, k4, rfl⟩ := ap_slice hR
      refine Reg.Gives.skip (w' := wi.setCell ⟨g, 4, none⟩ (.slice A4 n4 k4)) (by go_simp) ⟨trivial, ⟨fun _ => ha h13, fun _ => h13, fun h => absurd (h13.symm.trans h) (by decide), fun _ => ap_end HNE.out HBG.out HDN.out hR⟩, fun j u _ hal h => ap_keep (fun e => by subst e; rw [show Reg.alive _ _ 16 13 = false by kernel_rfl] at hal; cases hal) h⟩
    · omega
  · intro V w2 _ hI
    obtain ⟨r2, hd2, ht2⟩ := hI.2.2.2 rfl
    rw [Reg.putS_opts _ V [(some 14, V 0), (some 15, V 1), (some 16, V 2), (some 17, V 3), (some 18, V 4), (some 19, V 5), (some 20, V 6), (some 21, V 7), (some 22, V 8), (some 23, V 9), (some 24, V 10), (some 25, V 11), (some 26, V 12), (some 27, V 13), (some 28, V 14), (some 29, V 15), (none, V 16)] rfl]
    have HX := Lib.hid (And.intro hd2 (Turn.before HB1.out ht2))
    obtain ⟨v2, _, _, _, hbx2, _⟩ := hd2
    obtain ⟨_, _, _, _, _, c2⟩ := hbx2.cells
    have hdn : (appended d (cat ss)).down = decide (left d.fuse (cat ss).length < (cat ss).length) := rfl
    rw [hdn] at c2
    clear hI ht2 hbx2 hdn
    simp only [List.foldl_cons, List.foldl_nil, Act.put, List.setIfInBounds_toArray, List.set_cons_succ, List.set_cons_zero]
    by_cases h3 : left d.fuse (cat ss).length < (cat ss).length
    · rw [decide_eq_true h3] at c2
      rw [if_pos h3] at HV
      clear h3
      go_wp2_with fail
      go_returns
      rw [HV.out]
      exact ⟨rfl, r2, HX.out⟩
    · rw [decide_eq_false h3] at c2
      rw [if_neg h3] at HV
      clear h3
      go_wp2_with fail
      go_returns
      rw [HV.out]
      exact ⟨rfl, r2, HX.out⟩

/-- The landed code does what is asked. -/
def code : Does := {
  Dk := Dk
  own := Dk.own
  lt := Dk.lt
  only := Dk.only
  news := new_any
  append := fun A ss c h ho hs hn hl hc => append_any A ss c h ho hs hn hl hc
  sync := sync_any
  drop := drop_any
  cut := cut_any
  fuse := fun n h _ _ _ => fuse_any n h
  crash := fun n h ho hn hn2 => crash_any n h ho hn hn2
  bytes := fun h _ => bytes_any h
  size := fun h _ => size_any h
  down := fun h _ => down_any h
  noAppend := noAppend_any
  noSync := noSync_any
  noDrop := noDrop_any
  noCut := noCut_any
  noFuse := noFuse_any
  noCrash := noCrash_any
  noBytes := noBytes_any
  noSize := noSize_any
  noDown := noDown_any
  }
end Go.Proofs.YtfdhckfpkhoheaaDoor.Disk
