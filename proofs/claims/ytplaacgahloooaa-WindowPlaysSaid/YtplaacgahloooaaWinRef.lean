/-
  Layer 13, the document's window: all numbers that were seen. Conditions: none.
-/
import Derived.Test.YtplaacgahloooaaWin
namespace Go.Proofs.Ytplaacgahloooaa.Win
set_option maxRecDepth 100000
open Go.RowKit Go.Deep Go.Proofs.Ytplaacgahloooaa.Mem

theorem OwnG.moreO {α : Type} {sT eT : TypeId} {zv : Value} {sz bytes : Nat} {vals : α → List Value} {l : List α} {B : Nat} {w : World} {V : Option Addr} {n vc : Nat} (E : Elem sT eT zv sz bytes) (hf : ∀ l : List α, Fit sz (l.map vals)) (h : OwnG eT sz vals B w (.slice V n vc) l) (p : α) (cells : Array Value) (hc : cells.toList = vals p) (hB : B ≤ w.heap.size) (hl : l.length ≤ 2000) :
    ∃ V' n' vc' w', (Builtin.append_ #[sT, sT] sT #[.slice V n vc, .slice (some ⟨w.heap.size, 0, none⟩) 1 1]).run Try.prog (w.alloc (.cells cells eT)) = .ok (.slice V' n' vc') w' ∧ OwnG eT sz vals B w' (.slice V' n' vc') (l ++ [p]) ∧ Only (fun k => some k = blk V) w w' ∧ ∀ k, blk V' = some k → some k = blk V ∨ w.heap.size ≤ k := by
  obtain ⟨wd, hwd⟩ : ∃ W, W = w.alloc (.cells cells eT) := ⟨_, rfl⟩
  have hbd : Below w.heap.size w wd := by rw [hwd]; exact below_alloc _ _
  have hnew : Cells wd w.heap.size eT (vals p) := by rw [hwd]; exact cells_new w eT (vals p) _ hc
  have hd := h.later hbd
  have hsl : Sl wd (some ⟨w.heap.size, 0, none⟩) sz ([p].map vals) := cells_sl (by simpa using hnew) fun v hv => (hf [p]).len v hv
  obtain ⟨v', w5, hrun, hrow, hg, hnb⟩ := run_append_rows E wd sT B (.slice V n vc) (l.map vals) ([p].map vals) (some ⟨w.heap.size, 0, none⟩) 1 (hf _) (hf [p])
    (by rw [List.length_map]; exact hd) hsl (fun e => by cases e) (by simp; omega) (by have := hbd.size; omega)
  obtain ⟨V', vc', rfl⟩ := row_slice hrow
  rw [← List.map_append] at hrow hrun hnb
  rw [← hwd]
  have ho := Only.of_grown hg
  rw [own_blk] at ho
  rw [own_blk, own_blk] at hnb
  refine ⟨V', _, vc', w5, hrun, ?_, (Only.of_below hbd).trans ho fun _ _ e => e, fun k e => ?_⟩
  · unfold OwnG
    rw [List.length_map] at hrow ⊢
    exact hrow
  · rcases hnb with e2 | e2
    · exact Or.inl (by rw [← e2, e])
    · have e3 : k = wd.heap.size := by rw [e] at e2; exact Option.some.inj e2
      have := hbd.size
      exact Or.inr (by omega)
theorem el_int : Elem 22 3 (.int .i64 0) 1 8 := ⟨Try.underlying22, by kernel_rfl, rfl, by decide, by decide⟩
def iv (x : Int) : List Value := [.int .i64 x]
theorem fit_iv (l : List Int) : Fit 1 (l.map iv) := ⟨fun v hv => by obtain ⟨x, _, rfl⟩ := List.mem_map.1 hv; rfl, fun v hv u hu => by
  obtain ⟨x, _, rfl⟩ := List.mem_map.1 hv
  unfold iv at hu
  simp only [List.mem_cons, List.not_mem_nil, or_false] at hu
  subst hu
  rfl⟩
/-- The document's window: its struct lies in block rb, its numbers at A. -/
structure RfAt (B : Nat) (w : World) (rb : Nat) (L : List Int) (A : Option Addr) (ac : Nat) : Prop where
  cel : Cells w rb 29 [.slice A L.length ac]
  row : OwnG 3 1 iv B w (.slice A L.length ac) L
  low : B ≤ rb
  nA : ∀ k, blk A = some k → k ≠ rb
section
variable {B rb ac : Nat} {w w' : World} {L : List Int} {A : Option Addr}
theorem RfAt.only {S : Nat → Prop} (h : RfAt B w rb L A ac) (ho : Only S w w') (h1 : ¬ S rb) (h2 : ∀ k, blk A = some k → ¬ S k) : RfAt B w' rb L A ac :=
  ⟨cells_only h.cel ho h1, row_only h.row ho (fun k e => h2 k (by rw [own_blk] at e; exact e)), h.low, h.nA⟩
theorem RfAt.later (h : RfAt B w rb L A ac) (hb : Below w.heap.size w w') : RfAt B w' rb L A ac := h.only (Only.of_below (S := fun _ => False) hb) (fun e => e) fun _ _ e => e
theorem RfAt.at (h : RfAt B w rb L A ac) {k : Nat} (hk : k < L.length) : ∃ g off, A = some ⟨g, off, none⟩ ∧ w.cell? ⟨g, off + k, none⟩ = some (.int .i64 L[k]) := by
  obtain ⟨_, hs⟩ := OwnG.sl fit_iv h.row
  obtain ⟨g, off, e, hr⟩ := hs k (by rw [List.length_map]; exact hk)
  rw [List.getElem_map] at hr
  have h0 := hr 0 _ rfl
  rw [Nat.mul_one, Nat.add_zero] at h0
  exact ⟨g, off, e, h0⟩
theorem RfAt.new (w : World) : RfAt w.heap.size (w.alloc (.cells #[.slice none 0 0] 29)) w.heap.size [] none 0 :=
  ⟨cells_new _ _ _ _ rfl, OwnG.nil _ _ _ _ _, Nat.le_refl _, fun k e => by cases e⟩
end
theorem RGreatest_any {B rb ac : Nat} {w : World} {L : List Int} {A : Option Addr} (h : RfAt B w rb L A ac) (hl : L.length ≤ 1000) :
    Calls Try.prog 10 #[.pointer (some ⟨rb, 0, none⟩)] w fun e w' => e = .returned (.int .i64 (maxL L)) ∧ Below w.heap.size w w' := by
  have HR := Lib.hid h
  obtain ⟨n, hn⟩ : ∃ n, L.length = n := ⟨_, rfl⟩
  have HN := Lib.hid hn
  rw [hn] at hl
  clear h hn
  go_enter Try.func10, Try.ntmps10
  go_wp2_with fail
  go_loopw [3, 4] (fun m i wr => ∃ (k : Nat), k ≤ n ∧ i = .int .i64 (k : Int) ∧ m = .int .i64 (maxL (L.take k)) ∧ Hid (Below w.heap.size w wr)) (fun _ i _ => n - (intOf i).toNat)
  case atStart => exact ⟨0, Nat.zero_le _, rfl, rfl, Lib.hid (Below.refl _ _)⟩
  case round =>
    obtain ⟨k, hkn, rfl, rfl, HB⟩ := hrel
    have hr := HR.out.later HB.out
    have c0 := hr.cel.cell (j := 0) rfl
    rw [HN.out] at c0
    by_cases hlt : k < n
    · have hkl : k < L.length := by rw [HN.out]; exact hlt
      obtain ⟨g, off, rfl, x0⟩ := hr.at hkl
      obtain ⟨p, hp⟩ : ∃ p, L[k] = p := ⟨_, rfl⟩
      rw [hp] at x0
      have htk : L.take (k + 1) = L.take k ++ [p] := by rw [List.take_add_one, List.getElem?_eq_getElem hkl, hp]; rfl
      have hmx := maxL_snoc (L.take k) p
      rw [← htk] at hmx
      obtain ⟨M, hM⟩ : ∃ M, maxL (L.take k) = M := ⟨_, rfl⟩
      rw [hM] at hmx ⊢
      have HMX := Lib.hid hmx
      clear hp htk hmx hkl hM hr
      by_cases hgt : M < p
      · have HE : Hid (maxL (L.take (k + 1)) = p) := Lib.hid (by rw [HMX.out, if_pos hgt])
        go_wp2_with fail
        go_roundw
        case rel => exact ⟨k + 1, by omega, by go_num, by rw [HE.out], HB⟩
        case measure => simp [intOf]; omega
      · have HE : Hid (maxL (L.take (k + 1)) = M) := Lib.hid (by rw [HMX.out, if_neg hgt])
        go_wp2_with fail
        go_roundw
        case rel => exact ⟨k + 1, by omega, by go_num, by rw [HE.out], HB⟩
        case measure => simp [intOf]; omega
    · obtain rfl : k = n := by omega
      have htk : L.take k = L := List.take_of_length_le (by rw [HN.out]; exact Nat.le_refl _)
      have HT := Lib.hid htk
      clear htk hr
      go_wp2_with fail
      go_returns
      exact ⟨ret_int (by rw [HT.out]), HB.out⟩
theorem RSeen_any {B rb ac : Nat} {w : World} {L : List Int} {A : Option Addr} (h : RfAt B w rb L A ac) (hw : Wok L) (x : Int) (hl : L.length ≤ 1000) :
    Calls Try.prog 12 #[.pointer (some ⟨rb, 0, none⟩), .int .i64 x] w fun e w' => e = .returned (.bool (seenL L x)) ∧ Below w.heap.size w w' := by
  obtain ⟨v, hv⟩ : ∃ v, seenL L x = v := ⟨_, rfl⟩
  rw [hv]
  by_cases hx1 : x < 1
  · obtain rfl : v = true := hv ▸ decide_eq_true (Or.inl hx1)
    clear hv hw h
    go_enter Try.func12, Try.ntmps12
    go_wp2_with fail
    go_returns
    exact ⟨rfl, Below.refl _ _⟩
  by_cases hx2 : 1099511627776 < x
  · obtain rfl : v = true := hv ▸ decide_eq_true (Or.inr (Or.inl hx2))
    clear hv hw h
    go_enter Try.func12, Try.ntmps12
    go_wp2_with fail
    go_returns
    exact ⟨rfl, Below.refl _ _⟩
  have HC := Lib.hid (RGreatest_any h hl)
  obtain ⟨hm0, hm1⟩ := hw.max
  obtain ⟨M, hM⟩ : ∃ M, maxL L = M := ⟨_, rfl⟩
  rw [hM] at HC hm0 hm1
  have hwr : IntKind.i64.wrap (M - 64) = M - 64 := by rw [IntKind.wrap_i64]; omega
  by_cases hx3 : x ≤ M - 64
  · obtain rfl : v = true := hv ▸ decide_eq_true (Or.inr (Or.inr (Or.inl (by omega))))
    clear hv hw h hM
    go_enter Try.func12, Try.ntmps12
    go_wp2_with fail
    refine HC.out.mono ?_
    rintro e w1 ⟨rfl, hb1⟩
    go_wp2_with fail
    go_returns
    exact ⟨rfl, hb1⟩
  have HV : Hid (v = decide (x ∈ L)) := Lib.hid (by
    rw [← hv]
    refine decide_eq_decide.2 ⟨fun e => ?_, fun e => Or.inr (Or.inr (Or.inr e))⟩
    rcases e with e | e | e | e
    · omega
    · omega
    · omega
    · exact e)
  have HR := Lib.hid h
  obtain ⟨n, hn⟩ : ∃ n, L.length = n := ⟨_, rfl⟩
  have HN := Lib.hid hn
  rw [hn] at hl
  clear h hn hv hM hw
  go_enter Try.func12, Try.ntmps12
  go_wp2_with fail
  refine HC.out.mono ?_
  rintro e w1 ⟨rfl, hb1⟩
  have HB1 := Lib.hid hb1
  clear hb1 HC
  go_wp2_with fail
  go_loopw [5] (fun i wr => ∃ (k : Nat), k ≤ n ∧ i = .int .i64 (k : Int) ∧ Hid (x ∉ L.take k) ∧ Hid (Below w.heap.size w wr)) (fun i _ => n - (intOf i).toNat)
  case atStart => exact ⟨0, Nat.zero_le _, rfl, Lib.hid (by simp), HB1⟩
  case round =>
    clear HB1
    obtain ⟨k, hkn, rfl, HX, HB⟩ := hrel
    have hr := HR.out.later HB.out
    have c0 := hr.cel.cell (j := 0) rfl
    rw [HN.out] at c0
    by_cases hlt : k < n
    · have hkl : k < L.length := by rw [HN.out]; exact hlt
      obtain ⟨g, off, rfl, x0⟩ := hr.at hkl
      obtain ⟨p, hp⟩ : ∃ p, L[k] = p := ⟨_, rfl⟩
      rw [hp] at x0
      have htk : L.take (k + 1) = L.take k ++ [p] := by rw [List.take_add_one, List.getElem?_eq_getElem hkl, hp]; rfl
      have HT := Lib.hid htk
      have HP : Hid (p ∈ L) := Lib.hid (by rw [← hp]; exact List.getElem_mem hkl)
      clear hp htk hkl hr
      by_cases hpx : p = x
      · subst hpx
        have HE : Hid (v = true) := Lib.hid (by rw [HV.out]; exact decide_eq_true HP.out)
        go_wp2_with fail
        go_returns
        exact ⟨ret_val (by rw [HE.out]; try rfl), HB.out⟩
      · have hpx2 : (p == x) = false := by simpa using hpx
        have HE : Hid (x ∉ L.take (k + 1)) := Lib.hid (by
          rw [HT.out, List.mem_append, List.mem_singleton]
          rintro (e | e)
          · exact HX.out e
          · exact hpx e.symm)
        clear hpx
        go_wp2_with fail
        go_roundw
        case rel => exact ⟨k + 1, by omega, by go_num, HE, HB⟩
        case measure => simp [intOf]; omega
    · obtain rfl : k = n := by omega
      have htk : L.take k = L := List.take_of_length_le (by rw [HN.out]; exact Nat.le_refl _)
      have HE : Hid (v = false) := Lib.hid (by rw [HV.out]; exact decide_eq_false (by rw [← htk]; exact HX.out))
      clear htk hr
      go_wp2_with fail
      go_returns
      exact ⟨ret_val (by rw [HE.out]; try rfl), HB.out⟩
def rfoot (rb : Nat) (A : Option Addr) (k : Nat) : Prop := k = rb ∨ some k = blk A
theorem RSee_any {B rb ac : Nat} {w : World} {L : List Int} {A : Option Addr} (h : RfAt B w rb L A ac) (hw : Wok L) (x : Int) (hB : B ≤ w.heap.size) (hl : L.length ≤ 1000) :
    Calls Try.prog 8 #[.pointer (some ⟨rb, 0, none⟩), .int .i64 x] w fun e w' => e = .returned (.bool (!seenL L x)) ∧ Only (rfoot rb A) w w' ∧ ∃ A' ac', RfAt B w' rb (if seenL L x then L else L ++ [x]) A' ac' ∧ ∀ k, blk A' = some k → some k = blk A ∨ w.heap.size ≤ k := by
  have HC := Lib.hid (RSeen_any h hw x hl)
  obtain ⟨v, hv⟩ : ∃ v, seenL L x = v := ⟨_, rfl⟩
  rw [hv] at HC ⊢
  have HR := Lib.hid h
  have HBW := Lib.hid hB
  have HL := Lib.hid hl
  clear hv h hw hB hl
  cases v with
  | true =>
    go_enter Try.func8, Try.ntmps8
    go_wp2_with fail
    refine HC.out.mono ?_
    rintro e w1 ⟨rfl, hb1⟩
    go_wp2_with fail
    go_returns
    exact ⟨rfl, Only.of_below hb1, A, ⟨ac, HR.out.later hb1⟩, fun k e => Or.inl e.symm⟩
  | false =>
    go_enter Try.func8, Try.ntmps8
    go_wp2_with fail
    refine HC.out.mono ?_
    rintro e w1 ⟨rfl, hb1⟩
    have hr := HR.out.later hb1
    have c0 := hr.cel.cell (j := 0) rfl
    obtain ⟨n, hn⟩ : ∃ n, L.length = n := ⟨_, rfl⟩
    have hrow := hr.row
    rw [hn] at c0 hrow
    obtain ⟨A2, n2, ac2, w2, hrun, hrow2, ho2, hg2⟩ := OwnG.moreO el_int fit_iv hrow x #[.int .i64 x] rfl (Nat.le_trans HBW.out hb1.size) (by have := HL.out; omega)
    have hlen2 := (OwnG.sl fit_iv hrow2).1
    have hne : ¬ some rb = blk A := fun e => hr.nA rb e.symm rfl
    have hc2 := cells_only hr.cel ho2 hne
    have d0 := hc2.cell (j := 0) rfl
    have f0 := hc2.frozen (j := 0) (by simp)
    rw [hn] at d0
    have HFIN : Hid (Only (rfoot rb A) w (w2.setCell ⟨rb, 0, none⟩ (.slice A2 n2 ac2)) ∧ RfAt B (w2.setCell ⟨rb, 0, none⟩ (.slice A2 n2 ac2)) rb (L ++ [x]) A2 ac2 ∧ ∀ k, blk A2 = some k → some k = blk A ∨ w.heap.size ≤ k) := Lib.hid (by
      have hset := Only.of_set w2 ⟨rb, 0, none⟩ (.slice A2 n2 ac2)
      have hrl := hr.cel.lt
      have hnA2 : ∀ k, blk A2 = some k → k ≠ rb := fun k e e2 => by
        rcases hg2 k e with e3 | e3
        · exact hne (by rw [← e2]; exact e3)
        · omega
      refine ⟨((Only.of_below hb1).trans ho2 fun _ _ e => Or.inr e).trans hset fun _ _ e => Or.inl e, ⟨?_, ?_, HR.out.low, hnA2⟩, fun k e => ?_⟩
      · have := hc2.set_ 0 (.slice A2 n2 ac2)
        rw [← hlen2]
        exact this
      · rw [← hlen2]
        exact row_only hrow2 hset fun k e e2 => by
          rw [own_blk] at e
          exact hnA2 k e e2
      · rcases hg2 k e with e3 | e3
        · exact Or.inl e3
        · exact Or.inr (Nat.le_trans hb1.size e3))
    have HRUN := Lib.hid hrun
    clear hrun hr hrow hn hrow2 ho2 hg2 hlen2 hne hc2 hb1 HC HR
    go_wp2_with (at_builtin
                 refine Lib.wpList_append_run (w1.alloc (.cells #[.int .i64 x] 3)) rfl (.tmp 12) (.tmp 14) 22 22 rfl (.slice A n ac) (.slice (some ⟨w1.heap.size, 0, none⟩) 1 1) rfl rfl _ _ HRUN.out ?_)
    go_returns
    exact ⟨rfl, HFIN.out.1, A2, ⟨ac2, HFIN.out.2.1⟩, HFIN.out.2.2⟩
end Go.Proofs.Ytplaacgahloooaa.Win
