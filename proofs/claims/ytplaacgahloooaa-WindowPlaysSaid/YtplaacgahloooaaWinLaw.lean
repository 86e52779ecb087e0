/-
  Layer 13's laws: the document's example; whole numbers that came in; pure words on numbers that were seen. Conditions: none.
-/
import Derived.Test.YtplaacgahloooaaWin
namespace Go.Proofs.Ytplaacgahloooaa.Win
set_option maxRecDepth 100000
open Go.ChangeShapes Go.WideShapes Go.ChangeAt Go.RowKit Go.Deep Go.Proofs.Ytplaacgahloooaa.Mem

theorem seenL_more {L : List Int} {n : Int} (h : seenL L n = true) (x : Int) : seenL (L ++ [x]) n = true := by
  refine decide_eq_true ?_
  have hm : maxL L ≤ maxL (L ++ [x]) := by
    rw [maxL_snoc]
    split <;> omega
  rcases of_decide_eq_true h with e | e | e | e
  · exact Or.inl e
  · exact Or.inr (Or.inl e)
  · exact Or.inr (Or.inr (Or.inl (by omega)))
  · exact Or.inr (Or.inr (Or.inr (List.mem_append_left _ e)))
theorem seenL_mem {L : List Int} {n : Int} (h : n ∈ L) : seenL L n = true := decide_eq_true (Or.inr (Or.inr (Or.inr h)))
theorem seeL_one (L : List Int) (n : Int) : seeL L [n] = if seenL L n then (0, L) else (1, L ++ [n]) := seeL_snoc L [] n
theorem seeL_seen (L : List Int) : ∀ ks : List Int, ∀ n ∈ ks, seenL (seeL L ks).2 n = true := by
  suffices h : ∀ m (ks : List Int), ks.length = m → ∀ n ∈ ks, seenL (seeL L ks).2 n = true from fun ks => h _ ks rfl
  intro m
  induction m with
  | zero =>
    intro ks h n hn
    obtain rfl := List.eq_nil_of_length_eq_zero h
    cases hn
  | succ m ih =>
    intro ks h n hn
    have hne : ks ≠ [] := fun e => by rw [e] at h; cases h
    obtain ⟨K, x, rfl⟩ : ∃ K x, ks = K ++ [x] := ⟨ks.dropLast, ks.getLast hne, (List.dropLast_concat_getLast hne).symm⟩
    have hK := ih K (by simpa using h)
    rw [seeL_snoc]
    by_cases hs : seenL (seeL L K).2 x = true
    · rw [if_pos hs]
      rcases List.mem_append.1 hn with h1 | h1
      · exact hK n h1
      · rw [show n = x by simpa using h1]
        exact hs
    · rw [if_neg hs]
      rcases List.mem_append.1 hn with h1 | h1
      · exact seenL_more (hK n h1) x
      · rw [show n = x by simpa using h1]
        exact seenL_mem (by simp)
theorem seeL_none {L : List Int} : ∀ {ks : List Int}, (∀ n ∈ ks, seenL L n = true) → seeL L ks = (0, L) := by
  intro ks
  unfold seeL
  generalize (0 : Int) = z
  induction ks with
  | nil => intro _; rfl
  | cons a r ih =>
    intro h
    rw [List.foldl_cons, if_pos (h a (by simp))]
    exact ih fun n hn => h n (by simp [hn])
section
variable {H : Type} {enc : TypeId × Value → H} {W : World}
theorem arg_ints {base : Nat} {v : Value} {d : DataW H} {p : List MemPlace} (hv : Value.okWide Try.prog W .any base 22 v) (h : DataW.Trod enc Try.prog W 0 (fun _ => true) true 22 v d p) :
    ∃ (A : Option Addr) (ks : List Int) (cap : Nat), v = .slice A ks.length cap ∧ Ints W A ks ∧ ks.length ≤ maxLen := by
  obtain ⟨A, f, len, cap, rfl, h1, _, h3⟩ := Base.open_nums (k := .i64) Try.underlying22 Try.underlying3 (by kernel_rfl) hv h
  refine ⟨A, (List.range len).map f, cap, by simp, fun i hi => ?_, by simpa using h1⟩
  rw [List.length_map, List.length_range] at hi
  obtain ⟨⟨b, off, e, hc⟩, _⟩ := h3 i hi
  exact ⟨b, off, e, by rw [hc]; simp⟩
end
/-- One number is seen: a new slice of it is made. -/
theorem See_one {w wi : World} {b : Nat} {L : List Int} (h : WinAt w b L) (hw : Wok L) (n : Int) (e : wi = w.alloc (.cells #[.int .i64 n] 3)) :
    Calls Try.prog 6 #[.pointer (some ⟨b, 0, none⟩), .slice (some ⟨w.heap.size, 0, none⟩) 1 1] wi fun e w' => e = .returned (.int .i64 (seeL L [n]).1) ∧ WinAt w' b (seeL L [n]).2 ∧ Only (fun k => k = b) w w' := by
  have hb : Below w.heap.size w wi := by rw [e]; exact below_alloc _ _
  have hi : Ints wi (some ⟨w.heap.size, 0, none⟩) [n] := by rw [e]; exact ints_new w [n] _ rfl
  have hlt := h.lt
  refine (See_any (h.later hb) hw 1 hi (fun g off e _ => by cases e; omega) (by simp)).mono ?_
  rintro e w' ⟨h1, h2, h3⟩
  exact ⟨h1, h2, (Only.of_below hb).trans h3 fun _ _ e => e⟩
theorem only_own {B b : Nat} {w w' : World} (h : Only (fun k => k = b) w w') (hB : B ≤ w.heap.size) (hb : B ≤ b) : Below B w w' := h.below hB fun k e => by omega
theorem awake_any (w : World) : Calls Try.prog 5 #[] w fun e w' => e = .returned (.bool true) ∧ Below w.heap.size w w' := by
  obtain ⟨wa, hwa⟩ : ∃ W, W = w.alloc (.cells #[.int .i64 0, .int .u64 0] 26) := ⟨_, rfl⟩
  have hba : Below w.heap.size w wa := by rw [hwa]; exact below_alloc _ _
  have ha : WinAt wa w.heap.size [] := by rw [hwa]; exact WinAt.new w
  have hsa : wa.heap.size = w.heap.size + 1 := by rw [hwa]; exact World.size_alloc _ _
  obtain ⟨wb, hwb⟩ : ∃ W, W = wa.alloc (.cells #[.int .i64 0, .int .u64 0] 26) := ⟨_, rfl⟩
  have hbb : Below wa.heap.size wa wb := by rw [hwb]; exact below_alloc _ _
  have hb : WinAt wb (w.heap.size + 1) [] := by rw [hwb, ← hsa]; exact WinAt.new wa
  have hsb : wb.heap.size = w.heap.size + 2 := by rw [hwb, World.size_alloc, hsa]
  obtain ⟨wc, hwc⟩ : ∃ W, W = wb.alloc (.cells #[.int .i64 5, .int .i64 3, .int .i64 5] 3) := ⟨_, rfl⟩
  have hbc : Below wb.heap.size wb wc := by rw [hwc]; exact below_alloc _ _
  have hic : Ints wc (some ⟨w.heap.size + 2, 0, none⟩) [5, 3, 5] := by rw [hwc, ← hsb]; exact ints_new wb [5, 3, 5] _ rfl
  obtain ⟨B, hB⟩ : ∃ B, w.heap.size = B := ⟨_, rfl⟩
  have hBc : Below B wa wc := (hbb.mono (by omega)).trans (hbc.mono (by omega))
  have HS1 := Lib.hid (See_any ((ha.later hbb).later hbc) Wok.nil 3 hic (fun g off e _ => by cases e; omega) (by decide))
  rw [show seeL [] [5, 3, 5] = (2, [5, 3]) by decide] at HS1
  have HBC := Lib.hid (hba.trans ((hbb.mono hba.size).trans (hbc.mono (by omega))))
  have HV := Lib.hid (hb.later hbc)
  have HSZ : Hid (w.heap.size + 2 < wc.heap.size) := Lib.hid (by rw [hwc, World.size_alloc]; omega)
  have hsb2 := hsb
  rw [hB] at HS1 HV hsb2
  clear hba ha hbb hb hbc hic hBc
  go_enter Try.func5, Try.ntmps5
  go_upto_region 2 with (fail)
  rw [← hwa, ← hwb]
  clear hwa hwb
  go_wp2_with (rw [← hwc])
  refine HS1.out.mono ?_
  rintro e wd ⟨rfl, hwd, hod⟩
  have hvd := HV.out.only hod (by omega)
  have HBD := Lib.hid (HBC.out.trans (only_own hod HBC.out.size (by omega)))
  obtain ⟨we, hwe⟩ : ∃ W, W = wd.alloc (.cells #[.int .i64 100] 3) := ⟨_, rfl⟩
  have HS2 := Lib.hid (See_one hvd Wok.nil 100 hwe)
  rw [show seeL [] [100] = (1, [100]) by decide] at HS2
  clear hwd hod hvd HS1 HV hsb2 hwc hsa hsb
  go_wp2_with (rw [← hwe])
  refine HS2.out.mono ?_
  rintro e wf ⟨rfl, hwf, hof⟩
  have HBF := Lib.hid (HBD.out.trans (only_own hof HBD.out.size (by omega)))
  obtain ⟨wg, hwg⟩ : ∃ W, W = wf.alloc (.cells #[.int .i64 36] 3) := ⟨_, rfl⟩
  have hok : Wok [100] := fun x hx => by
    rw [show x = 100 by simpa using hx]
    decide
  have HS3 := Lib.hid (See_one hwf hok 36 hwg)
  rw [show seeL [100] [36] = (0, [100]) by decide] at HS3
  clear hwf hof HS2 hwe
  go_wp2_with (rw [← hwg])
  refine HS3.out.mono ?_
  rintro e wh ⟨rfl, hwh, hoh⟩
  have HBH := Lib.hid (HBF.out.trans (only_own hoh HBF.out.size (by omega)))
  obtain ⟨wi, hwi⟩ : ∃ W, W = wh.alloc (.cells #[.int .i64 37] 3) := ⟨_, rfl⟩
  have HS4 := Lib.hid (See_one hwh hok 37 hwi)
  rw [show seeL [100] [37] = (1, [100, 37]) by decide] at HS4
  clear hwh hoh HS3 hwg hok
  go_wp2_with (rw [← hwi])
  refine HS4.out.mono ?_
  rintro e wj ⟨rfl, hwj, hoj⟩
  have HBJ := Lib.hid (HBH.out.trans (only_own hoj HBH.out.size (by omega)))
  clear hwj hoj HS4
  go_wp2_with fail
  go_returns
  exact ⟨rfl, HBJ.out⟩
end Go.Proofs.Ytplaacgahloooaa.Win
