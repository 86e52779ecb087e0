/-
  slices.Clone at items; slices.Contains at ints.
  Conditions: none.
-/
import Derived.Test.YtjeogeablbkhgaaP31
import Derived.Test.YtjeogeablbkhgaaP11
namespace Go.Proofs.Ytjeogeablbkhgaa.Vot
set_option maxRecDepth 100000
open Go.RowKit Go.Deep Go.Proofs.Ytjeogeablbkhgaa.Mem Go.Proofs.Ytjeogeablbkhgaa.Item
theorem sl_items {w : World} {A : Option Addr} {l : List It} (h : Sl w A 5 (l.map It.vals)) : Items w A l := fun k hk => by
  obtain ⟨b, off, e, hr⟩ := h k (by rw [List.length_map]; exact hk)
  rw [List.getElem_map] at hr
  exact ⟨b, off, e, ⟨hr 0 _ rfl, hr 1 _ rfl, hr 2 _ rfl, hr 3 _ rfl, hr 4 _ rfl⟩⟩
theorem items_sl {w : World} {A : Option Addr} {l : List It} (h : Items w A l) : Sl w A 5 (l.map It.vals) := fun k hk => by
  rw [List.length_map] at hk
  obtain ⟨b, off, e, hi⟩ := h k hk
  refine ⟨b, off, e, fun j v hv => ?_⟩
  rw [List.getElem_map] at hv
  unfold It.vals at hv
  rcases j with _ | _ | _ | _ | _ | j
  · exact hi.cell.trans hv
  · exact hi.version.trans hv
  · exact hi.value.trans hv
  · exact hi.write.trans hv
  · exact hi.new.trans hv
  · simp at hv
theorem fit_items (l : List It) : Fit 5 (l.map It.vals) := ⟨fun v hv => by obtain ⟨x, _, rfl⟩ := List.mem_map.1 hv; rfl, fun v hv => by obtain ⟨x, _, rfl⟩ := List.mem_map.1 hv; exact vals_one x⟩
theorem el_item : Elem 49 60 (.agg #[.int .i64 0, .int .i64 0, .int .i64 0, .bool false, .int .i64 0]) 5 40 := ⟨Try.underlying49, by kernel_rfl, rfl, by decide, by decide⟩
theorem clone_item (A : Option Addr) (vs : List (List Value)) (cap : Nat) (w : World) (h : Sl w A 5 vs) (hf : Fit 5 vs) (hc : A = none → cap = 0) (hl : vs.length ≤ 100000) :
    Calls Try.prog 29 #[.slice A vs.length cap] w fun e w' => (∃ v, e = .returned v ∧ w'.ownsRow w.heap.size 60 5 v vs.length vs.flatten) ∧ Below w.heap.size w w' := by
  cases A with
  | none =>
    have hv := sl_none h
    subst hv
    obtain rfl := hc rfl
    have q1 := fun w => Lib.run_eql_slice_nil_nil (P := Try.prog) w 0 0 Try.underlying49
    go_enter Try.func29, Try.ntmps29
    go_wp2_with fail
    go_returns
    exact ⟨⟨_, rfl, World.ownsRow_nil _ _ _ _⟩, Below.refl _ _⟩
  | some ad =>
    have hb := below_alloc w (.cells #[] 60)
    have ho : (w.alloc (.cells #[] 60)).ownsRow w.heap.size 60 5 (.slice (some ⟨w.heap.size, 0, none⟩) 0 0) 0 [] := World.ownsRow_made (base := w.heap.size) w #[] 0 (Nat.le_refl _) (Nat.zero_le _) rfl
    obtain ⟨v', w', hrun, hrow, hg, _⟩ := run_append_rows el_item (w.alloc (.cells #[] 60)) 49 w.heap.size _ [] vs (some ad) cap (Fit.nil _) hf ho (h.later hb) (fun e => by cases e) (by simp only [List.length_nil]; omega) hb.size
    rw [List.nil_append] at hrow
    have HROW := Lib.hid hrow
    have HB : Hid (Below w.heap.size w w') := Lib.hid (Below.grown hb hg hb.size (fun k hk => (ho.lt k hk).1))
    obtain ⟨n, hn⟩ : ∃ n, vs.length = n := ⟨_, rfl⟩
    rw [hn] at hrun
    have HRUN := Lib.hid hrun
    have HN := Lib.hid hn
    rw [hn]
    clear h hf hc hl hb ho hrun hrow hg hn
    have q1 := fun w => Lib.run_eql_slice_some_nil (P := Try.prog) w ad n cap Try.underlying49
    go_enter Try.func29, Try.ntmps29
    go_wp2_with (at_builtin
                 refine Lib.wpList_append_run (w.alloc (.cells #[] 60)) rfl (.tmp 5) (.tmp 6) 49 49 rfl (.slice (some ⟨w.heap.size, 0, none⟩) 0 0) (.slice (some ad) n cap) rfl rfl _ _ HRUN.out ?_)
    go_returns
    exact ⟨⟨_, rfl, by have h := HROW.out; rw [HN.out] at h; exact h⟩, HB.out⟩
theorem index_any (A : Option Addr) (l : List Int) (c : Nat) (x : Int) (w : World) (h : IRow w A l) (hl : l.length ≤ 1000) :
    Calls Try.prog 42 #[.slice A l.length c, .int .i64 x] w fun e w' => ∃ i : Int, e = .returned (.int .i64 i) ∧ (x ∈ l ↔ 0 ≤ i) ∧ w' = w := by
  have HI := Lib.hid h
  obtain ⟨n, hn⟩ : ∃ n, l.length = n := ⟨_, rfl⟩
  rw [hn] at hl ⊢
  have HN := Lib.hid hn
  clear h hn
  go_enter Try.func42, Try.ntmps42
  go_wp2_with fail
  go_loopw [8] (fun i wr => ∃ k : Nat, i = .int .i64 (k : Int) ∧ k ≤ n ∧ Hid (x ∉ l.take k) ∧ wr = w) (fun i _ => n - (intOf i).toNat)
  case atStart => exact ⟨0, rfl, Nat.zero_le _, Lib.hid (by simp), rfl⟩
  case round =>
    obtain ⟨k, rfl, hk, HX, rfl⟩ := hrel
    by_cases hlt : k < n
    · have hkl : k < l.length := by rw [HN.out]; exact hlt
      obtain ⟨g, off, rfl, hc⟩ := HI.out k hkl
      obtain ⟨y, hy⟩ : ∃ y, l[k] = y := ⟨_, rfl⟩
      rw [hy] at hc
      have HT : Hid (l.take (k + 1) = l.take k ++ [y]) := Lib.hid (by rw [List.take_add_one, List.getElem?_eq_getElem hkl, hy]; rfl)
      have HM : Hid (y ∈ l) := Lib.hid (by rw [← hy]; exact List.getElem_mem hkl)
      clear hy hkl
      by_cases hxy : x = y
      · subst hxy
        go_wp2_with fail
        go_returns
        exact ⟨(k : Int), rfl, ⟨fun _ => by omega, fun _ => HM.out⟩, rfl⟩
      · have e1 : (x == y) = false := by simpa using hxy
        have HX2 : Hid (x ∉ l.take (k + 1)) := Lib.hid (by rw [HT.out, List.mem_append, List.mem_singleton]; exact fun e => e.elim HX.out hxy)
        clear hxy HX
        go_wp2_with fail
        go_roundw
        case rel => exact ⟨k + 1, by go_num, by omega, HX2, by trivial⟩
        case measure => simp [intOf]; omega
    · obtain rfl : k = n := by omega
      have HE : Hid (x ∉ l) := Lib.hid (by have := HX.out; rwa [List.take_of_length_le (Nat.le_of_eq HN.out)] at this)
      go_wp2_with fail
      go_returns
      exact ⟨-1, rfl, ⟨fun e => absurd e HE.out, fun e => absurd e (by decide)⟩, rfl⟩
theorem contains_any (A : Option Addr) (l : List Int) (c : Nat) (x : Int) (w : World) (h : IRow w A l) (hl : l.length ≤ 1000) :
    Calls Try.prog 35 #[.slice A l.length c, .int .i64 x] w fun e w' => e = .returned (.bool (decide (x ∈ l))) ∧ w' = w := by
  have HX := Lib.hid (index_any A l c x w h hl)
  obtain ⟨n, hn⟩ : ∃ n, l.length = n := ⟨_, rfl⟩
  obtain ⟨q, hq⟩ : ∃ q, decide (x ∈ l) = q := ⟨_, rfl⟩
  rw [hn] at HX ⊢
  rw [hq]
  have HQ := Lib.hid hq
  clear hn hl hq h
  go_enter Try.func35, Try.ntmps35
  go_wp2_with fail
  refine HX.out.mono ?_
  rintro e w1 ⟨i, rfl, hi, rfl⟩
  have e1 : decide (i ≥ 0) = q := by rw [← HQ.out]; exact decide_eq_decide.2 hi.symm
  clear hi HX
  go_wp2_with fail
  go_returns
  exact ⟨rfl, rfl⟩
end Go.Proofs.Ytjeogeablbkhgaa.Vot
