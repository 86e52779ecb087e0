/-
  Layer 11: All. Conditions: none.
-/
import Derived.Test.YtfhcfiebhagbeaaNetTake
namespace Go.Proofs.Ytfhcfiebhagbeaa.Net
set_option maxRecDepth 100000
open Go.RowKit Go.Deep Go.Proofs.Ytfhcfiebhagbeaa.Mem

theorem clone_pk (A : Option Addr) (vs : List (List Value)) (cap : Nat) (w : World) (h : Sl w A 4 vs) (hf : Fit 4 vs) (hc : A = none → cap = 0) (hl : vs.length ≤ 100000) :
    Calls Try.prog 34 #[.slice A vs.length cap] w fun e w' => (∃ v, e = .returned v ∧ w'.ownsRow w.heap.size 39 4 v vs.length vs.flatten) ∧ Below w.heap.size w w' := by
  cases A with
  | none =>
    have hv := sl_none h
    subst hv
    obtain rfl := hc rfl
    have q1 := fun w => Lib.run_eql_slice_nil_nil (P := Try.prog) w 0 0 Try.underlying31
    go_enter Try.func34, Try.ntmps34
    go_wp2_with fail
    go_returns
    exact ⟨⟨_, rfl, World.ownsRow_nil _ _ _ _⟩, Below.refl _ _⟩
  | some ad =>
    have hb := below_alloc w (.cells #[] 39)
    have ho : (w.alloc (.cells #[] 39)).ownsRow w.heap.size 39 4 (.slice (some ⟨w.heap.size, 0, none⟩) 0 0) 0 [] := World.ownsRow_made (base := w.heap.size) w #[] 0 (Nat.le_refl _) (Nat.zero_le _) rfl
    obtain ⟨v', w', hrun, hrow, hg, _⟩ := run_append_rows el_pk (w.alloc (.cells #[] 39)) 31 w.heap.size _ [] vs (some ad) cap (Fit.nil _) hf ho (h.later hb) (fun e => by cases e) (by simp only [List.length_nil]; omega) hb.size
    rw [List.nil_append] at hrow
    have HROW := Lib.hid hrow
    have HB : Hid (Below w.heap.size w w') := Lib.hid (Below.grown hb hg hb.size (fun k hk => (ho.lt k hk).1))
    obtain ⟨n, hn⟩ : ∃ n, vs.length = n := ⟨_, rfl⟩
    rw [hn] at hrun
    have HRUN := Lib.hid hrun
    have HN := Lib.hid hn
    rw [hn]
    clear h hf hc hl hb ho hrun hrow hg hn
    have q1 := fun w => Lib.run_eql_slice_some_nil (P := Try.prog) w ad n cap Try.underlying31
    go_enter Try.func34, Try.ntmps34
    go_wp2_with (at_builtin
                 refine Lib.wpList_append_run (w.alloc (.cells #[] 39)) rfl (.tmp 5) (.tmp 6) 31 31 rfl (.slice (some ⟨w.heap.size, 0, none⟩) 0 0) (.slice (some ad) n cap) rfl rfl _ _ HRUN.out ?_)
    go_returns
    exact ⟨⟨_, rfl, by have h := HROW.out; rw [HN.out] at h; exact h⟩, HB.out⟩
/-- Packets in a row of the call's own. -/
def PkRow (B : Nat) (w : World) (v : Value) (l : List Pk) : Prop := w.ownsRow B 39 4 v l.length (l.map Pk.vals).flatten
theorem PkRow.later {B : Nat} {w w' : World} {v : Value} {l : List Pk} (h : PkRow B w v l) (hb : Below w.heap.size w w') : PkRow B w' v l := own_later h hb
theorem PkRow.at {B : Nat} {w : World} {A : Option Addr} {n c k : Nat} {l : List Pk} (h : PkRow B w (.slice A n c) l) {p : Pk} (hp : l[k]? = some p) : ∃ g, A = some ⟨g, 0, none⟩ ∧ w.rangeAt g (k * 4) p.vals ∧ B ≤ g ∧ g < w.heap.size := by
  obtain ⟨hk, e⟩ := List.getElem?_eq_some_iff.1 hp
  rcases h.2 with ⟨_, h0⟩ | ⟨g, cap, cur, e1, _⟩
  · omega
  · simp only [Value.slice.injEq] at e1
    have hr := h
    unfold PkRow at hr
    rw [e1.1, e1.2.1] at hr
    obtain ⟨hc, _⟩ := cells_of_own hr
    refine ⟨g, e1.1, fun j v hv => hc.cell ?_, (hr.lt g rfl)⟩
    have hj : j < 4 := (List.getElem?_eq_some_iff.1 hv).1
    rw [flatten_at (sz := 4) (fit_pks l).len k (by rw [List.length_map]; exact hk) j hj, List.getElem_map, e]
    exact hv
/-- A text is written over itself. -/
theorem PkRow.again {B g c k : Nat} {w : World} {l : List Pk} (h : PkRow B w (.slice (some ⟨g, 0, none⟩) l.length c) l) {p : Pk} (hp : l[k]? = some p) :
    PkRow B (w.setCell ⟨g, k * 4 + 2, none⟩ (.string p.bytes)) (.slice (some ⟨g, 0, none⟩) l.length c) l ∧ Only (fun j => j = g) w (w.setCell ⟨g, k * 4 + 2, none⟩ (.string p.bytes)) ∧ w.frozen? ⟨g, k * 4 + 2, none⟩ = false := by
  obtain ⟨hk, e⟩ := List.getElem?_eq_some_iff.1 hp
  have hv := flatten_len (fit_pks l).len
  rw [List.length_map] at hv
  obtain ⟨h1, h2, h3⟩ := row_put h (o := k * 4 + 2) (l := [.string p.bytes]) (by simp; omega) (fun v hv => by rw [List.mem_singleton.1 hv]; rfl)
  refine ⟨?_, h2, (h3 0 (by simp)).2⟩
  have e2 : over (l.map Pk.vals).flatten (k * 4 + 2) [.string p.bytes] = (l.map Pk.vals).flatten := by
    unfold over
    have h4 : (l.map Pk.vals).flatten[k * 4 + 2]? = some (.string p.bytes) := by
      rw [flatten_at (sz := 4) (fit_pks l).len k (by rw [List.length_map]; exact hk) 2 (by omega), List.getElem_map, e]
      rfl
    obtain ⟨h5, h6⟩ := List.getElem?_eq_some_iff.1 h4
    rw [List.append_assoc, List.singleton_append, List.length_singleton, ← h6, ← List.drop_eq_getElem_cons h5, List.take_append_drop]
  unfold PkRow
  rw [← e2]
  rw [e2] at h1 ⊢
  exact h1
set_option maxHeartbeats 1000000 in
theorem All_any {base b m c : Nat} {w : World} {N : Nt} {A : Option Addr} (h : NetAt base w b m N A c) :
    Calls Try.prog 26 #[.pointer (some ⟨b, 0, none⟩)] w fun e w' => ∃ v, e = .returned v ∧ PkRow w.heap.size w' v N.fl ∧ Below w.heap.size w w' := by
  obtain ⟨A', c', e, hs, hc, _⟩ := own_sl (vs := N.fl.map Pk.vals) (by simpa using h.row) (fit_pks _).len
  simp only [Value.slice.injEq, List.length_map] at e
  obtain ⟨rfl, _, rfl⟩ := e
  have hC := clone_pk A (N.fl.map Pk.vals) c w hs (fit_pks _) hc (by rw [List.length_map]; have := h.len; omega)
  rw [List.length_map] at hC
  have HC := Lib.hid hC
  have c2 := h.cel.cell (j := 2) rfl
  have HOK := Lib.hid h.pks
  obtain ⟨n, hn⟩ : ∃ n, N.fl.length = n := ⟨_, rfl⟩
  have hn2 : n ≤ 256 := by rw [← hn]; exact h.len
  have HN := Lib.hid hn
  rw [hn] at c2 HC
  clear h hs hc hC hn
  go_enter Try.func26, Try.ntmps26
  go_wp2_with fail
  refine HC.out.mono ?_
  rintro e w1 ⟨⟨v, rfl, hrow⟩, hb⟩
  obtain ⟨V, vc, rfl⟩ := row_slice hrow
  have HR : Hid (PkRow w.heap.size w1 (.slice V N.fl.length vc) N.fl) := Lib.hid (by unfold PkRow; rw [HN.out]; exact hrow)
  have HB := Lib.hid hb
  clear hrow hb HC c2
  go_wp2_with fail
  go_loopw [15] (fun i wr => ∃ k : Nat, k ≤ n ∧ i = .int .i64 (k : Int) ∧ Hid (PkRow w.heap.size wr (.slice V N.fl.length vc) N.fl) ∧ Hid (Below w.heap.size w wr)) (fun i _ => n - (intOf i).toNat)
  case atStart => exact ⟨0, Nat.zero_le _, rfl, HR, HB⟩
  case round =>
    clear HR HB
    obtain ⟨k, hk, rfl, HR, HB⟩ := hrel
    by_cases hkn : k < n
    · obtain ⟨p, hp⟩ : ∃ p, N.fl[k]? = some p := ⟨_, List.getElem?_eq_getElem (by rw [HN.out]; exact hkn)⟩
      obtain ⟨g, rfl, hr, hg1, hg2⟩ := HR.out.at hp
      have x0 := hr 0 _ rfl
      rw [Nat.add_zero] at x0
      have x1 := hr 1 _ rfl
      have x2 := hr 2 _ rfl
      have x3 := hr 3 _ rfl
      obtain ⟨we, hwe⟩ : ∃ W, W = wr.alloc (.cells #[.int .i64 p.src, .int .i64 p.dst, .string p.bytes, .bool p.spoilt] 39) := ⟨_, rfl⟩
      have hbe : Below wr.heap.size wr we := by rw [hwe]; exact below_alloc _ _
      have hce : Cells we wr.heap.size 39 p.vals := by rw [hwe]; exact cells_new _ _ _ _ rfl
      have y2 := hce.cell (j := 2) rfl
      have HRE := Lib.hid (HR.out.later hbe)
      have HBE := Lib.hid (HB.out.trans (hbe.mono HB.out.size))
      have HCL := Lib.hid (clone_any p.bytes we (by have := HOK.out p (List.mem_of_getElem? hp); have := this.len; omega))
      have HP := Lib.hid hp
      have HG := Lib.hid hg1
      clear hr hbe hce hg1 hg2 hp HR HB
      go_upto_region 7 with (fail)
      rw [← hwe]
      clear hwe x0 x1 x2 x3
      go_wp2_with fail
      refine HCL.out.mono ?_
      rintro e wf ⟨rfl, hbf⟩
      have hrf := HRE.out.later hbf
      obtain ⟨h1, h2, h3⟩ := hrf.again HP.out
      obtain ⟨_, e1, hr, _⟩ := hrf.at HP.out
      obtain rfl : g = _ := by simpa using e1
      have z2 := hr 2 _ rfl
      have HRF := Lib.hid h1
      have HBF : Hid (Below w.heap.size w (wf.setCell ⟨g, k * 4 + 2, none⟩ (.string p.bytes))) := Lib.hid ((HBE.out.trans (hbf.mono HBE.out.size)).setCell HG.out _)
      clear hbf hrf h1 h2 e1 hr HCL HRE HBE y2
      go_wp2_with fail
      go_roundw
      case rel => exact ⟨k + 1, by omega, by go_num, HRF, HBF⟩
      case measure => simp [intOf]; omega
    · obtain rfl : k = n := by omega
      go_wp2_with fail
      go_returns
      exact ⟨_, rfl, by rw [← HN.out]; exact HR.out, HB.out⟩
end Go.Proofs.Ytfhcfiebhagbeaa.Net
